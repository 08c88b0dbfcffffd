"""Answers. Each has lists of its own, so that it stays as it was made."""


class Answer:
    """What every answer is."""


class Parts(Answer):
    """The parts of a ground, one for each rule."""

    def __init__(self, parts):
        self.parts = [sorted(part) for part in parts]


class Packs(Answer):
    """Whole sets, no thing in two of them."""

    def __init__(self, packs):
        self.packs = [sorted(pack) for pack in packs]


class Crowded(Answer):
    """Some things that are more than all the rules' ranks of them together."""

    def __init__(self, some):
        self.some = sorted(some)


class Bar(Answer):
    """Some things beside which there are too few for so many whole sets."""

    def __init__(self, some):
        self.some = sorted(some)


class Common(Answer):
    """A set that is free by two rules, and a part of the ground that tells why none is greater."""

    def __init__(self, some, part):
        self.some = sorted(some)
        self.part = sorted(part)
