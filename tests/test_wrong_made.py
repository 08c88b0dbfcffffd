"""Wrong inputs for rules made of rules and for parting, and what is just within each bound."""

from freesets.answers import Answer, Crowded
from freesets.errors import BadRule, BadThing
from freesets.made import Beside, Cut, Held, Joined, Kept, Turned
from freesets.parting import covered, packed, parted
from freesets.ranks import grown, rank, reach, ring
from freesets.rules import Bits, Kinds, Posts, Rule, Threads
from tests import samples
from tests.checking import HUGE, NO_LISTS, NO_NUMBERS, WrongChecks

RULE = Threads(3, [(0, 1), (1, 2), (2, 0)])
NO_RULES = (
    None, True, 0, 3, 1.5, "", "bits: 1", b"", [], [RULE], (RULE,), {}, {RULE: RULE}, {RULE}, object(), Threads, Turned,
    Rule, len, lambda some: True, Crowded([0]), Answer(), BadRule("no rule"), iter([RULE]), HUGE, Rule())
EIGHT = Kinds([0] * 8, [3])
NINE = Bits([1] * 9)


def made_of(rule):
    """The rule in each kind of rule that is made of it."""
    return [
        Turned(rule), Cut(rule, 2), Kept(rule, list(range(rule.many()))), Held(rule, []), Beside(rule, Bits([])),
        Beside(Bits([]), rule), Joined([rule, rule])]


class NoRuleTest(WrongChecks):
    def test_in_rules_made_of_one(self):
        for wrong in NO_RULES:
            self.refuses(BadRule, Turned, wrong)
            self.refuses(BadRule, Cut, wrong, 1)
            self.refuses(BadRule, Kept, wrong, [])
            self.refuses(BadRule, Held, wrong, [])

    def test_in_rules_made_of_several(self):
        for wrong in NO_RULES:
            self.refuses(BadRule, Beside, wrong, RULE)
            self.refuses(BadRule, Beside, RULE, wrong)
            self.refuses(BadRule, Beside, wrong, wrong)
            self.refuses(BadRule, Joined, [wrong])
            self.refuses(BadRule, Joined, [RULE, wrong])
            self.refuses(BadRule, Joined, [wrong, RULE, RULE])

    def test_in_parting(self):
        for wrong in NO_RULES:
            self.refuses(BadRule, parted, [wrong])
            self.refuses(BadRule, parted, [RULE, RULE, wrong])
            self.refuses(BadRule, parted, [wrong, RULE])
            for asked in (covered, packed):
                self.refuses(BadRule, asked, wrong, 1)
                self.refuses(BadRule, asked, wrong, 0)

    def test_each_rule_is_one(self):
        for rule in (RULE, Kinds([0], [1]), Posts([[1]]), Bits([])):
            for near in made_of(rule):
                for far in made_of(near):
                    self.assertEqual(far.many(), rule.many())


class RulesTest(WrongChecks):
    def refuses_rules(self, rules):
        self.refuses(BadRule, Joined, rules)
        self.refuses(BadRule, parted, rules)

    def test_no_list(self):
        for rules in NO_LISTS + (RULE, (RULE,), (RULE, RULE), {RULE}, {RULE: RULE}, iter([RULE]), Joined([RULE])):
            self.refuses_rules(rules)

    def test_no_rule_and_nine_rules(self):
        for rules in ([], [RULE] * 9, [RULE] * 100, [[RULE]], [[]]):
            self.refuses_rules(rules)
        for count in (1, 8):
            self.assertEqual(Joined([RULE] * count).many(), 3)
            self.assertIsInstance(parted([RULE] * count), Answer)

    def test_unlike_sizes(self):
        other = Kinds([0, 0], [1])
        for rules in ([RULE, other], [other, RULE], [RULE] * 7 + [other], [Bits([]), RULE], [Bits([1] * 16), EIGHT]):
            self.refuses_rules(rules)


class BoundTest(WrongChecks):
    def test_bounds(self):
        for bound in NO_NUMBERS + (-1, 17, HUGE, -HUGE, RULE):
            self.refuses(BadRule, Cut, RULE, bound)
        for bound in (0, 16):
            self.assertEqual(Cut(RULE, bound).many(), 3)

    def test_times(self):
        for times in NO_NUMBERS + (0, -1, 9, HUGE, -HUGE, RULE):
            self.refuses(BadRule, covered, RULE, times)
            self.refuses(BadRule, packed, RULE, times)
        for times in (1, 8):
            self.assertIsInstance(covered(RULE, times), Answer)
            self.assertIsInstance(packed(RULE, times), Answer)

    def test_more_than_sixteen_things_beside_one_another(self):
        sixteen = samples.great_rules()[0]
        for one, other in ((EIGHT, NINE), (NINE, EIGHT), (sixteen, Bits([0])), (Bits([0]), sixteen), (sixteen, sixteen)):
            self.refuses(BadRule, Beside, one, other)
            self.refuses(BadRule, Beside, Turned(one), other)
        self.refuses(BadRule, Beside, Beside(EIGHT, EIGHT), Bits([1]))
        self.assertEqual(Beside(EIGHT, EIGHT).many(), 16)
        self.assertEqual(Beside(sixteen, Bits([])).many(), 16)
        self.assertEqual(Beside(Bits([]), sixteen).many(), 16)


class ThingsTest(WrongChecks):
    def test_what_is_kept_and_held(self):
        for made in (Kept, Held):
            for rule in [RULE] + made_of(RULE):
                for some in NO_LISTS:
                    self.refuses(BadThing, made, rule, some)
                for thing in NO_NUMBERS + (-1, 3, 16, HUGE):
                    self.refuses(BadThing, made, rule, [thing])
                    self.refuses(BadThing, made, rule, [0, thing])
                for some in ([0, 0], [2, 1, 2], [0, 1, 2, 0]):
                    self.refuses(BadThing, made, rule, some)
            self.refuses(BadThing, made, Bits([]), [0])
            self.assertIn(made(RULE, [2, 0, 1]).many(), (0, 3))

    def test_bad_rule_goes_first(self):
        for made in (Kept, Held):
            for wrong in NO_RULES:
                for some in (None, (0,), [0, 0], [-1], [True], [99]):
                    self.refuses(BadRule, made, wrong, some)

    def test_sets_that_are_asked_of(self):
        for rule in made_of(RULE):
            for asked in (type(rule).free, rank, grown, reach):
                for some in NO_LISTS:
                    self.refuses(BadThing, asked, rule, some)
                for thing in NO_NUMBERS + (-1, 3, 16):
                    self.refuses(BadThing, asked, rule, [thing])
                    self.refuses(BadThing, asked, rule, [1, thing])
                for some in ([0, 0], [1, 0, 1], [0, 1, 2, 0]):
                    self.refuses(BadThing, asked, rule, some)
            self.refuses(BadThing, ring, rule, [], 3)

    def test_things_of_the_new_ground(self):
        self.refuses(BadThing, Kept(RULE, [2]).free, [2])
        self.refuses(BadThing, Kept(RULE, [2]).free, [1])
        self.refuses(BadThing, Held(RULE, [0]).free, [2])
        self.refuses(BadThing, Held(RULE, [0, 1, 2]).free, [0])
        self.refuses(BadThing, Beside(RULE, EIGHT).free, [11])
        self.assertIs(Kept(RULE, [2]).free([0]), True)
        self.assertIs(Held(RULE, [0]).free([1]), True)
        self.assertIs(Beside(RULE, EIGHT).free([10]), True)
        self.refuses(BadThing, Cut(RULE, 0).free, [3])
        self.refuses(BadThing, Cut(RULE, 0).free, [2, 2])
