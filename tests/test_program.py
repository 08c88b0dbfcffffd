"""The whole document over the whole program: small random rules, four deep, by the words of each point."""

from random import Random

from freesets.errors import BadRule
from freesets.meeting import common
from freesets.parting import covered, packed, parted
from freesets.texts import read, written
from tests import samples, words, words_made
from tests.checking import ExchangeChecks, FreeChecks, RankChecks
from tests.checking_answers import CommonChecks, PartingChecks
from tests.checking_wholes import WeightChecks, WholeChecks

DEPTH = 4
MOST = 6


def chosen(source, many):
    """Pairs of a rule and a table of what is free by the words."""
    found = [samples.random_made(source, many, DEPTH, MOST) for turn in range(10)]
    # Most random rules so deep have but one whole set, of which little can be asked.
    while many > 1 and len(found) < 24:
        rule, free = samples.random_made(source, many, DEPTH, MOST)
        if len(words_made.wholes(free)) > 1:
            found.append((rule, free))
    return found


class ProgramTest(FreeChecks, ExchangeChecks, RankChecks, WholeChecks, WeightChecks, PartingChecks, CommonChecks):
    @classmethod
    def setUpClass(cls):
        source = Random(61)
        cls.pairs = {many: chosen(source, many) for many in range(MOST + 1)}

    def each(self):
        return [pair for many in range(MOST + 1) for pair in self.pairs[many]]

    def neighbours(self):
        """Each rule with its table, and another one over a ground of the same size with its own."""
        return [near + far for pairs in self.pairs.values() for near, far in zip(pairs, pairs[1:] + pairs[:1])]

    def test_what_is_free(self):
        for rule, free in self.each():
            self.check_table(rule, free)

    def test_point_6(self):
        for rule, free in self.each():
            self.check_exchange(rule)

    def test_point_7_of_ranks_and_rings(self):
        for rule, free in self.each():
            self.check_ranks_and_rings(rule, free)

    def test_point_7_of_whole_sets(self):
        for rule, free in self.each():
            self.check_whole(rule, free)
            self.check_listed(rule, free)

    def test_point_8(self):
        for rule, free in self.each():
            self.check_changes(rule, free)
            self.check_both_ways(rule, free)

    def test_point_9(self):
        for rule, free in self.each():
            for made, table in samples.every_way(rule, free):
                self.check_table(made, table)

    def test_point_10(self):
        for one, near, other, far in self.neighbours():
            for rules, tables in (([one, other], [near, far]), ([other, one, one], [far, near, near])):
                can_be = words_made.joined(tables)[-1]
                self.assertIs(self.check_parted(parted(rules), rules), can_be)
            for times in (1, 2, 3):
                can_be = words_made.joined([near] * times)[-1]
                self.assertIs(self.check_parted(covered(one, times), [one] * times), can_be)

    def test_point_11(self):
        for rule, free in self.each():
            for times in (1, 2, 3):
                can_be = words_made.can_pack(words_made.wholes(free), times)
                self.assertIs(self.check_packed(packed(rule, times), rule, times), can_be)

    def test_point_12(self):
        for one, near, other, far in self.neighbours():
            self.check_common(common(one, other), one, other)
            self.check_common_by_tables(common(one, other), near, far)
            self.check_common_by_tables(common(other, one), far, near)
            self.check_common_by_tables(common(one, one), near, near)

    def test_point_13(self):
        source = Random(62)
        for rule, free in self.each():
            for numbers in ([0, 1], [-1, 0, 1], [-3, -2], [2, 3, 3], list(range(-20, 21))):
                self.check_weights(rule, free, [source.choice(numbers) for thing in range(rule.many())])

    def test_point_14(self):
        source = Random(63)
        for rule, free in self.each():
            self.assertRaises(BadRule, written, rule)
        for turn in range(60):
            rule = samples.random_sort(source, turn % 8)
            told = read(written(rule))
            self.assertEqual(written(told), written(rule))
            self.check_table(told, words.free_table(rule))

    def test_a_rule_that_is_read_in_rules_made_of_rules(self):
        source = Random(64)
        for turn in range(20):
            rule = samples.random_sort(source, turn % 5)
            for made, free in samples.every_way(read(written(rule)), words.free_table(rule)):
                self.check_points(made, free)
