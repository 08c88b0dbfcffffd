"""Putting things into parts that are each free by a rule of their own.

The parts are masks, in the order of the knowns, each of which tells what is free in its part.
"""

from freesets.masks import things_of


def put_in(knowns, parts, thing):
    """The parts with the thing in one of them, others having changed parts for it; None if there is no way."""
    steps, last = search(knowns, parts, [thing])
    if last is None:
        return None
    return moved(parts, steps, last)


def search(knowns, parts, starts):
    """The steps of a shortest way to put in one of the starts, and the last thing on it with the part it goes to.

    A step says which other thing can take a thing's place, and in which part; a start has none. Where
    there is no way, None is told last. Then the things in the steps are the starts and all that could
    have made room: none of them can be put to any part, nor take the place of a thing beside them.
    """
    steps = {thing: None for thing in starts}
    waiting = list(starts)
    while waiting:
        mover = waiting.pop(0)
        room = room_for(knowns, parts, mover)
        if room is not None:
            return steps, (mover, room)
        for place, known in enumerate(knowns):
            for other in others_of(parts[place], mover):
                if other not in steps and known.is_free(parts[place] ^ (1 << other | 1 << mover)):
                    steps[other] = (mover, place)
                    waiting.append(other)
    return steps, None


def room_for(knowns, parts, mover):
    """The place of a part that stays free when the mover is put to it, or None."""
    for place, known in enumerate(knowns):
        part = parts[place] | 1 << mover
        if part != parts[place] and known.is_free(part):
            return place
    return None


def others_of(part, mover):
    """The things that the mover may take the place of: none of its own part."""
    return [] if part >> mover & 1 else things_of(part)


def moved(parts, steps, last):
    """The parts after each thing on the way has gone to where the one behind it made room."""
    after = list(parts)
    mover, place = last
    after[place] |= 1 << mover
    while steps[mover] is not None:
        newcomer, place = steps[mover]
        after[place] ^= 1 << mover | 1 << newcomer
        mover = newcomer
    return after
