"""Point 1 for rules made of rules and for parting: nothing handed in is kept or changed, what is told is new."""

import unittest

from freesets.made import Beside, Cut, Held, Joined, Kept, Turned
from freesets.parting import covered, packed, parted
from freesets.ranks import grown, reach, ring
from freesets.rules import Bits, Kinds, Threads
from tests import words

RULE = Threads(4, [(0, 1), (1, 2), (2, 0), (2, 3)])


class MadeTest(unittest.TestCase):
    def check(self, made, handed, spoil):
        """The rule answers as before when what it was made of is changed."""
        given = list(handed)
        rule = made(handed)
        self.assertEqual(handed, given)
        before = words.free_table(rule)
        self.assertEqual(handed, given)
        spoil(handed)
        self.assertNotEqual(handed, given)
        self.assertEqual(words.free_table(rule), before)
        untouched = list(given)
        later = made(untouched)
        spoil(untouched)
        self.assertEqual(words.free_table(later), before)

    def test_sets_that_rules_are_made_of(self):
        for made in (Kept, Held):
            for spoil in (list.clear, list.sort, list.pop, lambda some: some.append(2)):
                self.check(lambda some: made(RULE, some), [3, 0], spoil)

    def test_rules_that_a_rule_is_made_of(self):
        one = Kinds([0] * 4, [1])
        for spoil in (list.clear, list.reverse, list.pop, lambda rules: rules.append(RULE)):
            self.check(Joined, [RULE, one], spoil)

    def test_rules_handed_in_answer_as_before(self):
        before = words.free_table(RULE)
        shown = repr(vars(RULE))
        made = [
            Turned(RULE), Cut(RULE, 1), Kept(RULE, [2, 1]), Held(RULE, [2]), Beside(RULE, RULE), Joined([RULE, RULE])]
        for rule in made:
            words.free_table(rule)
        parted([RULE, RULE])
        covered(RULE, 2)
        packed(RULE, 2)
        self.assertEqual(words.free_table(RULE), before)
        self.assertEqual(repr(vars(RULE)), shown)

    def test_a_rule_in_several_rules(self):
        inner = Joined([RULE, Kinds([0] * 4, [1])])
        outers = [Turned(inner), Cut(inner, 2), Joined([inner, inner])]
        tables = [words.free_table(outer) for outer in outers]
        self.assertEqual([words.free_table(outer) for outer in outers], tables)
        self.assertEqual(words.free_table(Turned(outers[0])), words.free_table(inner))

    def test_questions_change_no_list(self):
        for rule in (Turned(RULE), Cut(RULE, 2), Kept(RULE, [3, 2, 1, 0]), Held(RULE, []), Joined([RULE, RULE])):
            some = [3, 1]
            rule.free(some)
            told = [grown(rule, some), reach(rule, some)]
            self.assertEqual(some, [3, 1])
            for first, asked in zip(told, (grown, reach)):
                wanted = list(first)
                first.append(9)
                self.assertEqual(asked(rule, some), wanted)
        rule = Turned(RULE)
        first = ring(rule, [1], 0)
        first.append(9)
        self.assertEqual(ring(rule, [1], 0), [0, 1])


class PartingTest(unittest.TestCase):
    def check(self, ask):
        """Asked again the answer is a new one, whatever became of the first."""
        first = ask()
        again = ask()
        self.assertIsNot(first, again)
        wanted = repr(vars(again))
        self.assertEqual(repr(vars(first)), wanted)
        for told in vars(first).values():
            for inner in told:
                if isinstance(inner, list):
                    inner.append(9)
            told.append(9)
        self.assertEqual(repr(vars(again)), wanted)
        self.assertEqual(repr(vars(ask())), wanted)

    def test_answers_are_new(self):
        deep = Joined([RULE, Kinds([0] * 4, [1])])
        for rule in (RULE, Kinds([0] * 4, [1]), Kinds([0] * 4, [0]), Bits([1, 2, 4, 8]), deep, Turned(deep)):
            rules = [rule, RULE]
            self.check(lambda: parted(rules))
            self.check(lambda: parted(rules[:1]))
            self.assertEqual(rules, [rule, RULE])
            for times in (1, 2, 8):
                self.check(lambda: covered(rule, times))
                self.check(lambda: packed(rule, times))

    def test_the_list_of_rules_is_not_kept(self):
        rules = [RULE, Kinds([0] * 4, [1])]
        answer = parted(rules)
        wanted = repr(answer.parts)
        rules.clear()
        self.assertEqual(repr(answer.parts), wanted)
