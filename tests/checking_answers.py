"""What several test files ask of answers with two sides. The classes here hold no test of their own."""

from freesets.answers import Answer, Bar, Common, Crowded, Packs, Parts
from freesets.ranks import rank
from tests import words
from tests.checking import SetChecks


class PartingChecks(SetChecks):
    """An answer that is what it says it is, is the right one: no ground has both."""

    def check_parted(self, answer, rules):
        many = rules[0].many()
        self.assertIsInstance(answer, Answer)
        if isinstance(answer, Parts):
            self.assertIs(type(answer.parts), list)
            self.assertEqual(len(answer.parts), len(rules))
            for rule, part in zip(rules, answer.parts):
                self.check_set(part, many)
                self.assertIs(rule.free(part), True)
            self.assertEqual(sorted(sum(answer.parts, [])), list(range(many)))
            return True
        self.assertIsInstance(answer, Crowded)
        self.check_set(answer.some, many)
        self.assertGreater(len(answer.some), sum(rank(rule, answer.some) for rule in rules))
        return False

    def check_packed(self, answer, rule, times):
        many = rule.many()
        most = rank(rule, list(range(many)))
        self.assertIsInstance(answer, Answer)
        if isinstance(answer, Packs):
            self.assertIs(type(answer.packs), list)
            self.assertEqual(len(answer.packs), times)
            for pack in answer.packs:
                self.check_set(pack, many)
                self.assertEqual(len(pack), most)
                self.assertIs(rule.free(pack), True)
            together = sum(answer.packs, [])
            self.assertEqual(len(set(together)), len(together))
            return True
        self.assertIsInstance(answer, Bar)
        self.check_set(answer.some, many)
        self.assertLess(many - len(answer.some), times * (most - rank(rule, answer.some)))
        return False


class CommonChecks(SetChecks):
    """Point 12."""

    def check_common(self, answer, one, other):
        many = one.many()
        self.assertIs(type(answer), Common)
        self.assertIsInstance(answer, Answer)
        self.check_set(answer.some, many)
        self.check_set(answer.part, many)
        self.assertIs(one.free(answer.some), True)
        self.assertIs(other.free(answer.some), True)
        others = [thing for thing in range(many) if thing not in answer.part]
        self.assertEqual(len(answer.some), rank(one, answer.part) + rank(other, others))

    def check_common_by_tables(self, answer, near, far):
        """The same, against tables of what is free by the one and by the other."""
        many = (len(near) - 1).bit_length()
        self.check_set(answer.some, many)
        self.check_set(answer.part, many)
        some = words.mask_of(answer.some)
        part = words.mask_of(answer.part)
        self.assertTrue(near[some] and far[some])
        ranks = words.rank_table(near)[part] + words.rank_table(far)[len(far) - 1 - part]
        self.assertEqual(len(answer.some), ranks)
        most = max(mask.bit_count() for mask in range(len(near)) if near[mask] and far[mask])
        self.assertEqual(len(answer.some), most)
