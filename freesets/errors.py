"""The errors by which the program refuses what is handed in."""


class FreeError(ValueError):
    """Every refusal of the program."""


class BadRule(FreeError):
    """What a rule is made of is none of what the rule is made of."""


class BadThing(FreeError):
    """No thing of the ground, or no list of different ones."""


class BadWeights(FreeError):
    """No list of a weight for each thing."""


class NotFree(FreeError):
    """A set that is not free where a free one is asked."""


class NotWhole(FreeError):
    """A set that is not whole where a whole one is asked."""


class BadText(FreeError):
    """A text that writes no rule."""
