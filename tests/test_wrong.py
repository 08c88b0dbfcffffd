"""Wrong inputs, each by its own error, and what is just within each bound."""

from freesets.errors import BadRule, BadThing, NotFree
from freesets.ranks import grown, rank, reach, ring
from freesets.rules import Bits, Kinds, Posts, Threads
from tests import samples
from tests.checking import HUGE, NO_LISTS, NO_NUMBERS, WrongChecks


class BadRuleTest(WrongChecks):
    def test_places(self):
        for places in NO_NUMBERS + (0, -1, 21, HUGE, -HUGE):
            self.refuses(BadRule, Threads, places, [])
        for places in (1, 20):
            self.assertEqual(Threads(places, [(places - 1, 0)]).many(), 1)

    def test_ties(self):
        for ties in NO_LISTS:
            self.refuses(BadRule, Threads, 3, ties)
        for tie in NO_NUMBERS + (0, [0, 1], (), (0, 1, 2), "01", {0, 1}):
            self.refuses(BadRule, Threads, 3, [tie])
            self.refuses(BadRule, Threads, 3, [(0, 1), (1, 2), tie])

    def test_places_of_ties(self):
        for place in NO_NUMBERS + (-1, 3, 20, -HUGE):
            self.refuses(BadRule, Threads, 3, [(0, place)])
            self.refuses(BadRule, Threads, 3, [(place, 0)])
        self.refuses(BadRule, Threads, 3, [(0, HUGE)] * 2)
        self.refuses(BadRule, Threads, 1, [(0, 1)])
        self.refuses(BadRule, Threads, 20, [(20, 0)])
        self.assertEqual(Threads(3, [(0, 2), (2, 2)]).many(), 2)
        self.assertEqual(Threads(20, [(19, 19)]).many(), 1)

    def test_kinds(self):
        for kinds in NO_LISTS:
            self.refuses(BadRule, Kinds, kinds, [1, 1])
        for kind in NO_NUMBERS + (-1, 2, -2):
            self.refuses(BadRule, Kinds, [kind], [1, 1])
            self.refuses(BadRule, Kinds, [0, 1, kind], [1, 1])
        self.refuses(BadRule, Kinds, [HUGE, 0], [1])
        self.refuses(BadRule, Kinds, [0], [])
        self.assertEqual(Kinds([0, 1], [1, 1]).many(), 2)

    def test_how_many_of_a_kind(self):
        for most in NO_LISTS:
            self.refuses(BadRule, Kinds, [], most)
            self.refuses(BadRule, Kinds, [0], most)
        for may in NO_NUMBERS + (-1, 17):
            self.refuses(BadRule, Kinds, [0], [may])
            self.refuses(BadRule, Kinds, [], [0, may])
        self.refuses(BadRule, Kinds, [0], [HUGE] * 2)
        self.assertEqual(Kinds([0, 1], [0, 16]).many(), 2)

    def test_wants(self):
        for wants in NO_LISTS:
            self.refuses(BadRule, Posts, wants)
        for posts in NO_LISTS:
            self.refuses(BadRule, Posts, [posts])
            self.refuses(BadRule, Posts, [[0], posts])

    def test_posts(self):
        for post in NO_NUMBERS + (-1, 31):
            self.refuses(BadRule, Posts, [[post]])
            self.refuses(BadRule, Posts, [[0, 2], [2, post]])
        self.refuses(BadRule, Posts, [[HUGE]] * 2)
        self.refuses(BadRule, Posts, [[4, 4]])
        self.refuses(BadRule, Posts, [[], [4, 30, 4]])
        self.assertEqual(Posts([[0, 30], [30], [], list(range(31))]).many(), 4)

    def test_rows(self):
        for rows in NO_LISTS:
            self.refuses(BadRule, Bits, rows)
        for row in NO_NUMBERS + (-1, 1 << 32, (1 << 32) + 1):
            self.refuses(BadRule, Bits, [row])
            self.refuses(BadRule, Bits, [1, row])
        self.refuses(BadRule, Bits, [HUGE] * 2)
        self.assertEqual(Bits([0, (1 << 32) - 1]).many(), 2)

    def test_more_than_sixteen_things(self):
        for count in (17, 18, 1000):
            self.refuses(BadRule, Threads, 20, [(0, 1)] * count)
            self.refuses(BadRule, Kinds, [0] * count, [1])
            self.refuses(BadRule, Posts, [[]] * count)
            self.refuses(BadRule, Bits, [0] * count)

    def test_sixteen_things(self):
        self.assertEqual(Threads(20, [(0, 1)] * 16).many(), 16)
        self.assertEqual(Kinds([0] * 16, [1]).many(), 16)
        self.assertEqual(Posts([[]] * 16).many(), 16)
        self.assertEqual(Bits([0] * 16).many(), 16)


RULES = [
    Threads(3, [(0, 1), (1, 2), (2, 0)]),
    Kinds([0, 1, 1], [1, 1]),
    Posts([[0], [1], [0, 1]]),
    Bits([1, 2, 3]),
]
EMPTY = [Threads(1, []), Kinds([], []), Posts([]), Bits([])]


def free(rule, some):
    return rule.free(some)


def ring_of_the_last(rule, some):
    return ring(rule, some, rule.many() - 1)


class BadThingTest(WrongChecks):
    def refuses_set(self, rule, some):
        for asked in (free, rank, grown, reach, ring_of_the_last):
            self.refuses(BadThing, asked, rule, some)

    def test_no_list(self):
        for rule in RULES:
            for some in NO_LISTS:
                self.refuses_set(rule, some)

    def test_no_thing_in_the_set(self):
        for rule in RULES:
            for thing in NO_NUMBERS + (-1, -3, 3, 16):
                self.refuses_set(rule, [thing])
                self.refuses_set(rule, [0, thing])
                self.refuses_set(rule, [thing, 0])
            self.refuses_set(rule, [HUGE, 0])

    def test_a_thing_twice(self):
        for rule in RULES:
            for some in ([0, 0], [1, 0, 1], [0, 1, 2, 0]):
                self.refuses_set(rule, some)

    def test_no_answer_ahead_of_the_refusal(self):
        for rule in RULES:
            self.assertIs(rule.free([0, 1, 2]), False)
            for thing in (0, 2, 3, -1, True):
                self.refuses_set(rule, [0, 1, 2, thing])

    def test_a_ground_of_no_things_has_no_thing(self):
        for rule in EMPTY:
            for asked in (free, rank, grown, reach):
                for thing in (0, -1, False):
                    self.refuses(BadThing, asked, rule, [thing])
            for thing in (0, -1, False):
                self.refuses(BadThing, ring, rule, [], thing)

    def test_the_last_thing_is_one(self):
        for rule in samples.great_rules():
            self.assertIn(15, reach(rule, [15]))
            self.refuses_set(rule, [16])
            self.refuses(BadThing, ring, rule, [], 16)
            self.assertIn(ring(rule, [], 15), ([], [15]))


class RingTest(WrongChecks):
    def test_no_thing(self):
        for rule in RULES:
            for thing in NO_NUMBERS + (-1, 3, HUGE, -HUGE):
                self.refuses(BadThing, ring, rule, [], thing)
                self.refuses(BadThing, ring, rule, [1, 0], thing)

    def test_a_thing_of_the_set(self):
        for rule in RULES:
            self.refuses(BadThing, ring, rule, [1, 0], 0)
            self.refuses(BadThing, ring, rule, [1, 0], 1)

    def test_a_set_that_is_not_free(self):
        self.refuses(NotFree, ring, Threads(3, [(0, 0), (1, 2)]), [0], 1)
        self.refuses(NotFree, ring, Kinds([0, 0, 1], [1, 1]), [1, 0], 2)
        self.refuses(NotFree, ring, Posts([[0], [], [1]]), [0, 1], 2)
        self.refuses(NotFree, ring, Bits([1, 1, 2]), [0, 1], 2)

    def test_bad_thing_goes_before_not_free(self):
        for rule in RULES:
            for thing in (0, 1, 2, 3, -1, True, None):
                self.refuses(BadThing, ring, rule, [0, 1, 2], thing)
        rule = Threads(3, [(0, 0), (1, 2)])
        self.refuses(BadThing, ring, rule, [0, 0], 1)
        self.refuses(BadThing, ring, rule, [0, 2], 1)
        self.refuses(BadThing, ring, rule, (0,), 1)
