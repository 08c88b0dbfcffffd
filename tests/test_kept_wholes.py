"""Point 1 for whole sets, meeting and texts: nothing handed in is kept or changed, and what is told is new."""

import unittest

from freesets.made import Beside, Cut, Held, Joined, Kept, Turned
from freesets.meeting import common
from freesets.rules import Bits, Kinds, Posts, Threads
from freesets.texts import read, written
from freesets.wholes import both_ways, changes, heaviest, is_whole, lightest, rings, whole, wholes
from tests import samples, words

TRIANGLE = Threads(4, [(0, 1), (1, 2), (2, 0), (2, 3)])
RULES = [
    TRIANGLE, Kinds([0, 1, 0, 1], [1, 1]), Posts([[0, 1], [0], [], [2, 1]]), Bits([1, 2, 3, 0]), Turned(TRIANGLE),
    Cut(TRIANGLE, 2), Kept(TRIANGLE, [3, 2, 1, 0]), Held(TRIANGLE, []), Beside(Bits([1, 1]), Bits([2, 1])),
    Joined([Cut(TRIANGLE, 1), Bits([1, 1, 1, 1])]),
]


def spoil(told):
    """Change every list in an answer, the inner ones first."""
    for inner in told:
        if isinstance(inner, (list, tuple)):
            spoil(inner)
    if isinstance(told, list):
        told.reverse()
        told.append(9)


def told_by_common(one, other):
    answer = common(one, other)
    return [answer.some, answer.part]


class KeptTest(unittest.TestCase):
    def check_new(self, ask):
        """An answer that is changed changes no other one, asked ahead of it or behind it."""
        first = ask()
        again = ask()
        wanted = repr(again)
        self.assertEqual(repr(first), wanted)
        spoil(first)
        self.assertNotEqual(repr(first), wanted)
        self.assertEqual(repr(again), wanted)
        self.assertEqual(repr(ask()), wanted)

    def test_whole_sets_and_lists_of_them_are_new(self):
        for rule in RULES:
            self.check_new(lambda: whole(rule))
            self.check_new(lambda: wholes(rule))
            self.check_new(lambda: rings(rule))

    def test_changes_are_new(self):
        for rule in RULES:
            found = wholes(rule)
            one, other = found[0], found[-1]
            self.check_new(lambda: changes(rule, one, other))
            self.check_new(lambda: changes(rule, one, one))
            self.assertEqual([one, other], [wholes(rule)[0], wholes(rule)[-1]])

    def test_weighed_sets_are_new(self):
        for rule in RULES:
            for weights in ([4, 3, 2, 1], [0, 0, 0, 0], [-1, 1, -1, 1]):
                before = list(weights)
                self.check_new(lambda: heaviest(rule, weights))
                self.check_new(lambda: lightest(rule, weights))
                self.assertEqual(weights, before)

    def test_common_sets_are_new(self):
        for one in RULES:
            for other in RULES:
                self.assertIsNot(common(one, other), common(one, other))
                self.check_new(lambda: told_by_common(one, other))

    def test_an_answer_shares_no_list_with_what_is_handed_in(self):
        rule = Kinds([0, 0, 0, 0], [4])
        one = [0, 1, 2, 3]
        weights = [1, 2, 3, 4]
        told = [changes(rule, one, one), heaviest(rule, weights)[1], lightest(rule, weights)[1]]
        for some in told:
            self.assertIsNot(some, one)
            self.assertIsNot(some, weights)
            some.append(9)
        self.assertEqual((one, weights), ([0, 1, 2, 3], [1, 2, 3, 4]))

    def test_what_is_handed_in_is_not_kept(self):
        one = [3, 0, 1]
        other = [2, 1, 3]
        weights = [1, 2, 3, 4]
        self.assertEqual(changes(TRIANGLE, one, other), [(0, 2)])
        self.assertEqual(both_ways(TRIANGLE, one, other, 0), 2)
        self.assertEqual(heaviest(TRIANGLE, weights), (9, [1, 2, 3]))
        self.assertEqual(lightest(TRIANGLE, weights), (7, [0, 1, 3]))
        self.assertIs(is_whole(TRIANGLE, one), True)
        self.assertEqual((one, other, weights), ([3, 0, 1], [2, 1, 3], [1, 2, 3, 4]))
        one.remove(1)
        other.clear()
        weights[0] = 9
        self.assertIs(is_whole(TRIANGLE, one), False)
        self.assertEqual(changes(TRIANGLE, [3, 0, 1], [2, 1, 3]), [(0, 2)])
        self.assertEqual(both_ways(TRIANGLE, [3, 0, 1], [2, 1, 3], 0), 2)
        self.assertEqual(heaviest(TRIANGLE, weights), (16, [0, 2, 3]))
        self.assertEqual(heaviest(TRIANGLE, [1, 2, 3, 4]), (9, [1, 2, 3]))

    def test_rules_handed_in_answer_as_before(self):
        for rule in RULES + samples.few_rules():
            before = words.free_table(rule)
            found = wholes(rule)
            rings(rule)
            changes(rule, found[0], found[-1])
            heaviest(rule, [1] * rule.many())
            lightest(rule, [1] * rule.many())
            common(rule, rule)
            common(rule, Turned(rule))
            self.assertEqual(words.free_table(rule), before)

    def test_a_rule_that_is_read_is_new(self):
        wants = [[3, 1], [], [1]]
        rule = Posts(wants)
        text = written(rule)
        told = read(text)
        wants[0].clear()
        self.assertEqual(written(rule), "posts: 3,1 - 1")
        self.assertEqual(written(told), "posts: 3,1 - 1")
        self.assertIsNot(read(text), told)

    def test_what_a_rule_was_made_of_is_written_as_it_was(self):
        ties, kinds, most, rows = [(0, 1)], [0], [2], [7]
        rules = [Threads(2, ties), Kinds(kinds, most), Bits(rows)]
        for handed in (ties, kinds, most, rows):
            handed.clear()
        self.assertEqual([written(rule) for rule in rules], ["threads 2: 0-1", "kinds 2: 0", "bits: 7"])
