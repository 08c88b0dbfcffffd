"""Wrong inputs of whole sets, weights and meeting, each by its own error, and what is just within each bound."""

from freesets.answers import Common
from freesets.errors import BadRule, BadThing, BadWeights, NotWhole
from freesets.made import Beside, Cut, Held, Joined, Kept, Turned
from freesets.meeting import common
from freesets.rules import Bits, Kinds, Posts, Rule, Threads
from freesets.wholes import both_ways, changes, heaviest, is_whole, lightest, rings, whole, wholes
from tests import samples
from tests.checking import HUGE, NO_LISTS, NO_NUMBERS, WrongChecks

GREATEST = 1000000000
SORTS = [
    Threads(3, [(0, 1), (1, 2), (2, 0)]),
    Kinds([0, 0, 0], [2]),
    Posts([[0, 1], [0, 1], [0, 1]]),
    Bits([1, 2, 3]),
]
# By each of these rules, the whole sets are those of two of the three things.
RULES = SORTS + [
    Turned(Kinds([0, 0, 0], [1])), Cut(Bits([1, 2, 4]), 2), Kept(Bits([1, 9, 2, 3]), [3, 0, 2]),
    Held(Threads(4, [(0, 1), (1, 2), (2, 0), (2, 3)]), [3]), Beside(SORTS[1], Bits([])),
    Joined([Kinds([0, 0, 0], [1]), Kinds([0, 0, 0], [1])]),
]
NO_SETS = [[0, 0], [0, 1, 0], [1, 2, 1], [3], [-1], [0, 3], [-1, 1], [16, 1], [0, 1, 2, 0]]
NO_SETS.extend([thing, 1] for thing in NO_NUMBERS)
NO_SETS.extend([2, thing] for thing in NO_NUMBERS)
NOT_WHOLE = [[], [0], [2], [0, 1, 2], [2, 1, 0]]


def twice(rule, one, other):
    """Both questions about two whole sets; the thing is good if the one set is [0, 1] and the other has no 0."""
    return [(changes, rule, one, other), (both_ways, rule, one, other, 0)]


class SetsTest(WrongChecks):
    def refuses_both(self, error, rule, one, other):
        for asked, *given in twice(rule, one, other):
            self.refuses(error, asked, *given)

    def test_each_rule_is_good(self):
        for rule in RULES:
            self.assertEqual(wholes(rule), [[0, 1], [0, 2], [1, 2]])

    def test_no_list(self):
        for rule in RULES:
            for some in NO_LISTS:
                self.refuses(BadThing, is_whole, rule, some)
                self.refuses_both(BadThing, rule, some, [1, 2])
                self.refuses_both(BadThing, rule, [0, 1], some)

    def test_no_set(self):
        for rule in RULES:
            for some in NO_SETS + [[HUGE, 0], [-HUGE]]:
                self.refuses(BadThing, is_whole, rule, some)
                self.refuses_both(BadThing, rule, some, [1, 2])
                self.refuses_both(BadThing, rule, [0, 1], some)

    def test_not_whole(self):
        for rule in RULES:
            for some in NOT_WHOLE:
                self.assertIs(is_whole(rule, some), False)
                self.refuses_both(NotWhole, rule, some, [1, 2])
                self.refuses_both(NotWhole, rule, [0, 1], some)
                self.refuses_both(NotWhole, rule, some, some)

    def test_the_sets_go_ahead_of_whether_they_are_whole(self):
        for rule in RULES:
            for wrong in (None, (0, 1), [3], [0, 0], [True, 2]):
                for some in NOT_WHOLE:
                    self.refuses_both(BadThing, rule, some, wrong)
                    self.refuses_both(BadThing, rule, wrong, some)

    def test_whether_they_are_whole_goes_ahead_of_the_thing(self):
        for rule in RULES:
            for thing in NO_NUMBERS + (-1, 3, 2, HUGE):
                for some in NOT_WHOLE:
                    self.refuses(NotWhole, both_ways, rule, some, [1, 2], thing)
                    self.refuses(NotWhole, both_ways, rule, [0, 1], some, thing)
                self.refuses(BadThing, both_ways, rule, [0], [3], thing)
                self.refuses(BadThing, both_ways, rule, [True], [1], thing)

    def test_the_thing(self):
        for rule in RULES:
            for thing in NO_NUMBERS + (-1, -3, 3, 16, HUGE, -HUGE):
                self.refuses(BadThing, both_ways, rule, [0, 1], [1, 2], thing)
            # In both, in the other alone; and in neither where the two are the same.
            self.refuses(BadThing, both_ways, rule, [0, 1], [1, 2], 1)
            self.refuses(BadThing, both_ways, rule, [0, 1], [1, 2], 2)
            for thing in (0, 1, 2):
                self.refuses(BadThing, both_ways, rule, [0, 1], [1, 0], thing)
            self.assertEqual(both_ways(rule, [0, 1], [1, 2], 0), 2)

    def test_a_thing_in_neither(self):
        rule = Kinds([0, 0, 0, 0], [1])
        self.refuses(BadThing, both_ways, rule, [0], [1], 2)
        self.refuses(BadThing, both_ways, rule, [0], [1], 3)
        self.refuses(BadThing, both_ways, rule, [0], [1], 1)
        self.refuses(BadThing, both_ways, rule, [0], [0], 0)
        self.assertEqual(both_ways(rule, [0], [1], 0), 1)
        self.assertEqual(both_ways(rule, [3], [0], 3), 0)

    def test_true_is_no_thing_even_where_1_is_right(self):
        rule = Kinds([0, 0], [1])
        self.refuses(BadThing, both_ways, rule, [1], [0], True)
        self.refuses(BadThing, both_ways, rule, [0], [1], False)
        self.refuses(BadThing, is_whole, rule, [True])
        self.refuses(BadThing, changes, rule, [True], [0])
        self.refuses(BadThing, changes, rule, [0], [True])
        self.assertEqual(both_ways(rule, [1], [0], 1), 0)

    def test_no_things(self):
        for rule in (Bits([]), Turned(Bits([]))):
            self.refuses(BadThing, is_whole, rule, [0])
            self.refuses(BadThing, changes, rule, [0], [])
            self.refuses(BadThing, both_ways, rule, [], [], 0)
            self.assertIs(is_whole(rule, []), True)

    def test_asked_again_the_same(self):
        for rule in RULES:
            for turn in range(2):
                self.refuses_both(BadThing, rule, [0, 3], [1, 2])
                self.refuses_both(NotWhole, rule, [0], [1, 2])
                self.refuses(BadThing, both_ways, rule, [0, 1], [1, 2], 1)
                self.assertEqual(changes(rule, [1, 0], [1, 2]), [(0, 2)])
                self.assertEqual(both_ways(rule, [1, 0], [2, 1], 0), 2)
                self.assertIs(is_whole(rule, [2, 1]), True)


class ListedTest(WrongChecks):
    def test_more_than_ten_things(self):
        eleven = [
            Threads(2, [(0, 1)] * 11), Kinds([0] * 11, [0]), Posts([[]] * 11), Bits([1] * 11), Turned(Bits([1] * 11)),
            Cut(Bits([1] * 11), 0), Kept(Bits([1] * 16), list(range(11))), Held(Bits([1] * 16), list(range(5))),
            Beside(Bits([1]), Bits([1] * 10)), Joined([Bits([1] * 11)]), Bits([0] * 12),
        ]
        for rule in eleven + samples.great_rules():
            self.refuses(BadRule, wholes, rule)
            self.refuses(BadRule, rings, rule)
            self.assertIs(is_whole(rule, whole(rule)), True)

    def test_ten_things(self):
        for rule in (Threads(2, [(0, 1)] * 10), Kinds([0] * 10, [1]), Posts([[4]] * 10), Bits([1] * 10),
                     Kept(Bits([1] * 16), list(range(10))), Held(Bits([0] * 6 + [1] * 10), list(range(6)))):
            self.assertEqual(wholes(rule), [[thing] for thing in range(10)])
            self.assertEqual(len(rings(rule)), 45)


class WeightsTest(WrongChecks):
    def refuses_weights(self, rule, weights):
        self.refuses(BadWeights, heaviest, rule, weights)
        self.refuses(BadWeights, lightest, rule, weights)

    def test_no_list(self):
        for rule in RULES + [Bits([]), Bits([1])]:
            for weights in NO_LISTS + ((1, 2, 3), {0: 1, 1: 2, 2: 3}, {1, 2, 3}, "123", b"123", range(3), iter([1, 2, 3])):
                self.refuses_weights(rule, weights)

    def test_too_few_and_too_many(self):
        for rule in RULES:
            for weights in ([], [1], [1, 2], [1, 2, 3, 4], [0] * 4, [0] * 16):
                self.refuses_weights(rule, weights)
        self.refuses_weights(Bits([]), [0])
        self.refuses_weights(Bits([1] * 16), [0] * 15)
        self.refuses_weights(Bits([1] * 16), [0] * 17)

    def test_no_number_and_beyond_the_bounds(self):
        for rule in RULES:
            for weight in NO_NUMBERS + (GREATEST + 1, -GREATEST - 1, 10 ** 10, float("inf"), float("nan"), 1e9):
                self.refuses_weights(rule, [weight, 1, 2])
                self.refuses_weights(rule, [1, weight, 2])
                self.refuses_weights(rule, [1, 2, weight])
            self.refuses_weights(rule, [HUGE, 1, 2])
            self.refuses_weights(rule, [1, 2, -HUGE])

    def test_a_thing_that_is_never_free_needs_a_weight_too(self):
        for rule in (Bits([0, 1]), Cut(Bits([1, 2]), 0), Kinds([0, 1], [0, 1])):
            for weight in (True, None, "1", GREATEST + 1, -GREATEST - 1):
                self.refuses_weights(rule, [weight, 1])

    def test_within_the_bounds(self):
        for rule in RULES:
            self.assertEqual(heaviest(rule, [GREATEST, -GREATEST, GREATEST]), (2 * GREATEST, [0, 2]))
            self.assertEqual(lightest(rule, [-GREATEST, GREATEST, -GREATEST]), (-2 * GREATEST, [0, 2]))

    def test_asked_again_the_same(self):
        for rule in RULES:
            for turn in range(2):
                self.refuses_weights(rule, [1, 2])
                self.refuses_weights(rule, [1, 2, True])
                self.assertEqual(heaviest(rule, [1, 2, 3]), (5, [1, 2]))
                self.assertEqual(lightest(rule, [1, 2, 3]), (3, [0, 1]))


NO_RULES = NO_LISTS + (
    1.5, [Bits([1])], (Bits([1]), Bits([1])), Bits, Turned, Rule, "bits: 1", {Bits([1]): 1}, Common([], []), Rule())


class CommonTest(WrongChecks):
    def test_no_rule(self):
        for rule in RULES + [Bits([])]:
            for wrong in NO_RULES:
                self.refuses(BadRule, common, rule, wrong)
                self.refuses(BadRule, common, wrong, rule)
        for wrong in NO_RULES:
            self.refuses(BadRule, common, wrong, wrong)

    def test_grounds_of_unlike_sizes(self):
        for rule in RULES:
            for other in (Bits([]), Bits([1]), Bits([1, 2]), Kinds([0] * 4, [1]), Bits([1] * 16), Turned(Bits([1] * 4)),
                          Beside(rule, rule), Kept(rule, [0, 1]), Held(rule, [2])):
                self.refuses(BadRule, common, rule, other)
                self.refuses(BadRule, common, other, rule)

    def test_grounds_of_one_size(self):
        for one in RULES:
            for other in RULES:
                self.assertEqual(len(common(one, other).some), 2)

    def test_asked_again_the_same(self):
        for turn in range(2):
            self.refuses(BadRule, common, RULES[0], Bits([1, 2]))
            self.refuses(BadRule, common, RULES[0], None)
            self.assertEqual(len(common(RULES[0], Bits([1, 2, 4])).some), 2)
