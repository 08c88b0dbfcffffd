"""Points 10 and 11: parted or crowded, packed or barred, never both."""

from random import Random

from freesets.answers import Bar, Crowded, Packs, Parts
from freesets.made import Beside, Cut, Held, Joined, Kept, Turned
from freesets.parting import covered, packed, parted
from freesets.rules import Bits, Kinds, Posts, Threads
from tests import samples, words, words_made
from tests.checking_answers import PartingChecks

EMPTY = [Threads(1, []), Kinds([], [3]), Posts([]), Bits([])]


class PartedTest(PartingChecks):
    def check_against_all_ways(self, rules):
        with self.subTest(rules=[vars(rule) for rule in rules]):
            wanted = words_made.joined([words.free_table(rule) for rule in rules])[-1]
            self.assertIs(self.check_parted(parted(rules), rules), wanted)

    def test_one_rule(self):
        for rule in samples.small_rules():
            self.check_against_all_ways([rule])

    def test_the_same_rule_several_times(self):
        for rule in samples.small_rules()[::3]:
            for times in (2, 3):
                self.check_against_all_ways([rule] * times)

    def test_unlike_rules(self):
        for many in range(6):
            rules = samples.of_size(samples.few_rules(), many)
            for one in rules:
                for other in rules:
                    self.check_against_all_ways([one, other])
            for count in range(1, len(rules) + 1):
                self.check_against_all_ways(rules[:count])
                self.check_against_all_ways(rules[:count][::-1])

    def test_one_to_eight_random_rules(self):
        source = Random(21)
        for turn in range(240):
            many = source.randrange(4, 7)
            self.check_against_all_ways([samples.random_sort(source, many) for rule in range(1 + turn % 8)])

    def test_random_rules_made_of_rules(self):
        source = Random(22)
        for turn in range(80):
            many = source.randrange(6)
            rules = [samples.random_made(source, many, 1 + turn % 3, 6)[0] for rule in range(source.randrange(1, 4))]
            self.check_against_all_ways(rules)

    def test_the_parts_stand_in_the_order_of_the_rules(self):
        rules = [Kinds([int(thing != place) for thing in range(8)], [1, 0]) for place in (5, 2, 7, 0, 1, 6, 3, 4)]
        self.assertEqual(parted(rules).parts, [[5], [2], [7], [0], [1], [6], [3], [4]])

    def test_only_some_things_are_crowded(self):
        rule = Kinds([0, 1, 1, 1, 2], [2, 1, 2])
        self.assertEqual(parted([rule, rule]).some, [1, 2, 3])

    def test_a_thing_that_is_free_by_no_rule(self):
        self.assertEqual(parted([Bits([1, 0]), Threads(2, [(0, 1), (1, 1)])]).some, [1])

    def test_no_things(self):
        for count in range(1, 9):
            self.assertEqual(parted((EMPTY * 2)[:count]).parts, [[]] * count)

    def test_each_part_is_a_list_of_its_own(self):
        answer = parted([Kinds([], [])] * 3)
        answer.parts[0].append(5)
        self.assertEqual(answer.parts, [[5], [], []])

    def test_sixteen_things(self):
        great = samples.great_rules()
        found = []
        for one in great:
            for other in great:
                for rules in ([one], [one, other], [one, other] * 4, [one] * 3 + [other] * 5):
                    found.append(self.check_parted(parted(rules), rules))
        self.assertEqual(set(found), {True, False})

    def test_sixteen_things_just_parted_and_just_crowded(self):
        for sizes in ([2] * 8, [1] * 7 + [9], [3, 5, 8], [16], [4, 4, 4, 4]):
            rules = [Kinds([0] * 16, [most]) for most in sizes]
            self.assertEqual([len(part) for part in parted(rules).parts], sizes)
            less = rules[:-1] + [Kinds([0] * 16, [sizes[-1] - 1])]
            self.assertEqual(parted(less).some, list(range(16)))

    def test_random_grounds_of_sixteen_things(self):
        source = Random(23)
        found = []
        for turn in range(60):
            rules = [samples.random_sort(source, 16) for rule in range(1 + turn % 8)]
            found.append(self.check_parted(parted(rules), rules))
        self.assertEqual(set(found), {True, False})


class CoveredTest(PartingChecks):
    def test_small_grounds(self):
        for rule in samples.small_rules()[::3]:
            free = words.free_table(rule)
            for times in (1, 2, 3):
                with self.subTest(rule=vars(rule), times=times):
                    answer = self.check_parted(covered(rule, times), [rule] * times)
                    self.assertIs(answer, words_made.joined([free] * times)[-1])

    def test_one_to_eight_times(self):
        rule = Kinds([0, 0, 0, 0, 0, 0, 0, 0], [1])
        for times in range(1, 9):
            answer = covered(rule, times)
            self.check_parted(answer, [rule] * times)
            self.assertIs(type(answer), Parts if times == 8 else Crowded)
        self.assertEqual(covered(Kinds([0, 0, 0, 1], [1, 1]), 2).some, [0, 1, 2])

    def test_no_things(self):
        for rule in EMPTY:
            for times in (1, 8):
                self.assertEqual(covered(rule, times).parts, [[]] * times)

    def test_sixteen_things(self):
        for rule in samples.great_rules() + [Bits([1 << bit for bit in range(16)]), Turned(samples.great_rules()[0])]:
            for times in (1, 2, 3, 8):
                self.check_parted(covered(rule, times), [rule] * times)

    def test_rules_made_of_rules(self):
        ring_of_four = Threads(4, [(0, 1), (1, 2), (2, 3), (3, 0)])
        self.assertIs(type(covered(Cut(ring_of_four, 2), 2)), Parts)
        self.assertIs(type(covered(Cut(ring_of_four, 1), 3)), Crowded)
        self.assertIs(type(covered(Turned(ring_of_four), 4)), Parts)
        self.assertIs(type(covered(Turned(ring_of_four), 3)), Crowded)
        self.assertIs(type(covered(Joined([ring_of_four] * 2), 1)), Parts)
        self.assertEqual(covered(Kept(ring_of_four, [3, 1]), 1).parts, [[0, 1]])
        self.assertEqual(covered(Held(ring_of_four, [3, 1, 0]), 2).some, [0])
        self.assertIs(type(covered(Beside(ring_of_four, ring_of_four), 2)), Parts)


class PackedTest(PartingChecks):
    def check_against_all_ways(self, rule, times):
        with self.subTest(rule=vars(rule), times=times):
            wanted = words_made.can_pack(words_made.wholes(words.free_table(rule)), times)
            self.assertIs(self.check_packed(packed(rule, times), rule, times), wanted)

    def test_small_grounds(self):
        for rule in samples.small_rules():
            for times in (1, 2, 3, 8):
                self.check_against_all_ways(rule, times)

    def test_random_rules(self):
        source = Random(24)
        for turn in range(200):
            self.check_against_all_ways(samples.random_sort(source, source.randrange(4, 7)), 1 + turn % 4)

    def test_random_rules_made_of_rules(self):
        source = Random(25)
        for turn in range(80):
            self.check_against_all_ways(samples.random_made(source, source.randrange(6), 1 + turn % 3, 6)[0], 2)

    def test_once_is_a_whole_set(self):
        triangle = Threads(3, [(0, 1), (1, 2), (2, 0)])
        self.check_packed(packed(triangle, 1), triangle, 1)
        self.assertIs(type(packed(triangle, 1)), Packs)

    def test_rank_nought(self):
        for rule in EMPTY + [Kinds([0, 0], [0]), Bits([0]), Posts([[], []]), Threads(1, [(0, 0)] * 16)]:
            for times in (1, 2, 8):
                self.assertEqual(packed(rule, times).packs, [[]] * times)

    def test_each_pack_is_a_list_of_its_own(self):
        answer = packed(Bits([0]), 3)
        answer.packs[0].append(5)
        self.assertEqual(answer.packs, [[5], [], []])

    def test_one_to_eight_times(self):
        rule = Kinds([0] * 15, [2])
        for times in range(1, 9):
            answer = packed(rule, times)
            self.check_packed(answer, rule, times)
            self.assertIs(type(answer), Packs if times < 8 else Bar)

    def test_barred_by_none(self):
        self.assertEqual(packed(Kinds([0, 0, 0], [2]), 2).some, [])

    def test_barred_by_all_but_one_thing(self):
        # The thing 2 is in every whole set, and all the others could be packed.
        self.assertEqual(packed(Kinds([0, 0, 1, 0], [1, 1]), 2).some, [0, 1, 3])

    def test_a_thing_that_is_free_by_itself_nowhere(self):
        answer = packed(Bits([0, 1, 0, 2]), 2)
        self.check_packed(answer, Bits([0, 1, 0, 2]), 2)
        self.assertIs(type(answer), Bar)

    def test_sixteen_things(self):
        source = Random(26)
        rules = samples.great_rules() + [samples.random_sort(source, 16) for rule in range(30)]
        rules += [Kinds([0] * 16, [2]), Turned(rules[0]), Joined(rules[:2]), Cut(rules[3], 2)]
        found = []
        for rule in rules:
            for times in (1, 2, 3, 4, 8):
                found.append(self.check_packed(packed(rule, times), rule, times))
        self.assertEqual(set(found), {True, False})
        self.assertEqual([len(pack) for pack in packed(Kinds([0] * 16, [2]), 8).packs], [2] * 8)
