"""Parting a ground among rules and packing whole sets, or the things that tell why it cannot be."""

from freesets.answers import Bar, Crowded, Packs, Parts
from freesets.checks import is_within
from freesets.errors import BadRule
from freesets.joining import moved, put_in, search
from freesets.known import Known, known_each
from freesets.masks import all_of, things_of
from freesets.rules import check_rule, check_rules

MOST_TIMES = 8


def parted(rules):
    check_rules(rules)
    knowns = known_each(rules)
    parts = [0] * len(rules)
    for thing in range(rules[0].many()):
        steps, last = search(knowns, parts, [thing])
        if last is None:
            # The rules' ranks of these are the counts of those in the parts, and the thing is one more.
            return Crowded(list(steps))
        parts = moved(parts, steps, last)
    return Parts([things_of(part) for part in parts])


def covered(rule, times):
    check_rule(rule)
    check_times(times)
    return parted([rule] * times)


def packed(rule, times):
    check_rule(rule)
    check_times(times)
    known = Known(rule)
    knowns = [known] * times
    parts = [0] * times
    left = []
    for thing in range(rule.many()):
        after = put_in(knowns, parts, thing)
        if after is None:
            left.append(thing)
        else:
            parts = after
    packs = [things_of(part) for part in parts]
    if sum([len(pack) for pack in packs]) == times * known.rank_of(all_of(rule.many())):
        return Packs(packs)
    # What could make room for none of those left has its rank in each part, and all beside it is in the parts.
    return Bar(list(search(knowns, parts, left)[0]))


def check_times(times):
    if not is_within(times, 1, MOST_TIMES):
        raise BadRule("times are a number from 1 to 8")
