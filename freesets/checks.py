"""What is a number, a thing, a set and weights, and the refusal of what is none.

No message shows the value that it refuses: Python cannot show a very long number.
"""

from freesets.errors import BadThing, BadWeights

GREATEST_WEIGHT = 1000000000


def is_number(value):
    # Python counts True and False among the integers, the document does not.
    return isinstance(value, int) and not isinstance(value, bool)


def is_within(value, low, high):
    return is_number(value) and low <= value <= high


def check_thing(thing, many):
    if not is_within(thing, 0, many - 1):
        raise BadThing("a thing is a number from 0 to one below the count of things")


def check_set(some, many):
    if not isinstance(some, list):
        raise BadThing("a set is handed in as a list")
    seen = []
    for thing in some:
        check_thing(thing, many)
        if thing in seen:
            raise BadThing("no thing stands twice in a set")
        seen.append(thing)


def check_weights(weights, many):
    if not isinstance(weights, list) or len(weights) != many:
        raise BadWeights("weights are handed in as a list of one for each thing")
    if not all([is_within(weight, -GREATEST_WEIGHT, GREATEST_WEIGHT) for weight in weights]):
        raise BadWeights("a weight is a number from -1000000000 to 1000000000")
