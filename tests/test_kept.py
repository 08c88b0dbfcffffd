"""Point 1: nothing handed in is kept or changed, and what is told is new."""

import unittest
from copy import deepcopy

from freesets.ranks import grown, rank, reach, ring
from freesets.rules import Bits, Kinds, Posts, Threads
from tests import samples, words

MADE_OF = [
    (Threads, [3, [(0, 1), (1, 2), (2, 0), (1, 1)]]),
    (Kinds, [[0, 1, 0, 1], [1, 2]]),
    (Posts, [[[0, 1], [0], [], [2, 1]]]),
    (Bits, [[1, 2, 3, 0]]),
]


def answers(rule):
    return rule.many(), [rule.free(some) for some in words.sets_of(4)], reach(rule, [0, 1])


def spoil(given):
    """Change every list in what was handed in, the inner ones first."""
    for part in given:
        if isinstance(part, list):
            spoil(part)
            part.reverse()
            part.append(0)
            part[0] = 0


class KeptTest(unittest.TestCase):
    def test_a_rule_does_not_change_what_it_is_made_of(self):
        for sort, given in MADE_OF:
            handed = deepcopy(given)
            rule = sort(*handed)
            answers(rule)
            self.assertEqual(handed, given)

    def test_a_rule_answers_as_before_when_its_lists_are_changed(self):
        for sort, given in MADE_OF:
            handed = deepcopy(given)
            rule = sort(*handed)
            before = answers(rule)
            spoil(handed)
            self.assertNotEqual(handed, given)
            self.assertEqual(answers(rule), before)

    def test_the_inner_lists_alone(self):
        wants = [[0], [0, 1]]
        rule = Posts(wants)
        wants[1].pop()
        self.assertIs(rule.free([0, 1]), True)
        wants[0].pop()
        self.assertIs(rule.free([0]), True)

    def test_how_many_of_a_kind_alone(self):
        most = [1]
        rule = Kinds([0, 0], most)
        most[0] = 2
        self.assertIs(rule.free([0, 1]), False)

    def test_questions_change_no_list(self):
        for rule in samples.great_rules():
            for handed in ([9, 0, 4, 15, 2], [15, 14, 3], list(range(16))):
                given = list(handed)
                rule.free(handed)
                rank(rule, handed)
                grown(rule, handed)
                reach(rule, handed)
                self.assertEqual(handed, given)
                base = grown(rule, handed)
                given = list(base)
                for thing in range(16):
                    if thing not in base:
                        ring(rule, base, thing)
                self.assertEqual(base, given)

    def test_a_question_keeps_no_list(self):
        rule = Threads(3, [(0, 1), (1, 2), (2, 0)])
        some = [0, 1]
        self.assertEqual(reach(rule, some), [0, 1, 2])
        some.pop()
        self.assertEqual(reach(rule, some), [0])
        self.assertIs(rule.free([0, 1]), True)

    def test_what_is_told_is_new_each_time(self):
        rule = Threads(3, [(0, 1), (1, 2), (2, 0)])
        some = [0, 1]
        asked = [
            lambda: grown(rule, some),
            lambda: reach(rule, some),
            lambda: ring(rule, some, 2),
            lambda: ring(rule, [0], 2),
        ]
        for ask in asked:
            first = ask()
            wanted = list(first)
            self.assertIsNot(first, some)
            first.append(9)
            self.assertEqual(ask(), wanted)
        self.assertEqual(some, [0, 1])
