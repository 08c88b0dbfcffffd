"""Answers: what they are called, and that each has lists of its own."""

import unittest

from freesets.answers import Answer, Bar, Common, Crowded, Packs, Parts


class AnswersTest(unittest.TestCase):
    def test_each_is_straight_under_answer(self):
        for answer in (Parts, Packs, Crowded, Bar, Common):
            self.assertEqual(answer.__bases__, (Answer,))

    def test_its_sets_are_so_called(self):
        self.assertEqual(Parts([[0, 2], [], [1]]).parts, [[0, 2], [], [1]])
        self.assertEqual(Packs([[0], [1]]).packs, [[0], [1]])
        self.assertEqual(Crowded([0, 3]).some, [0, 3])
        self.assertEqual(Bar([]).some, [])
        self.assertEqual(Common([1], [0, 2]).some, [1])
        self.assertEqual(Common([1], [0, 2]).part, [0, 2])

    def test_by_their_names(self):
        self.assertEqual(Parts(parts=[[0]]).parts, [[0]])
        self.assertEqual(Packs(packs=[[0]]).packs, [[0]])
        self.assertEqual(Crowded(some=[0]).some, [0])
        self.assertEqual(Bar(some=[0]).some, [0])
        self.assertEqual(vars(Common(part=[0], some=[1])), {"some": [1], "part": [0]})

    def test_sets_are_told_as_rising_lists_in_the_order_of_the_sets(self):
        self.assertEqual(Parts([[2, 0], [3, 1]]).parts, [[0, 2], [1, 3]])
        self.assertEqual(Packs([[3, 1], [2, 0]]).packs, [[1, 3], [0, 2]])
        self.assertEqual(Crowded([3, 0]).some, [0, 3])
        self.assertEqual(Bar([3, 0]).some, [0, 3])
        self.assertEqual(Common([2, 1], [3, 0]).some, [1, 2])
        self.assertEqual(Common([2, 1], [3, 0]).part, [0, 3])

    def test_lists_of_sets_are_not_kept(self):
        for answer in (Parts, Packs):
            handed = [[1, 0], [2]]
            made = answer(handed)
            self.assertEqual(handed, [[1, 0], [2]])
            handed[0].append(7)
            handed.pop()
            handed.append([8])
            self.assertEqual(list(vars(made).values()), [[[0, 1], [2]]])

    def test_sets_are_not_kept(self):
        for answer in (Crowded, Bar):
            handed = [1, 0]
            made = answer(handed)
            self.assertEqual(handed, [1, 0])
            handed.append(7)
            self.assertEqual(made.some, [0, 1])

    def test_the_two_sets_of_common_are_not_kept(self):
        some, part = [1, 0], [2]
        made = Common(some, part)
        same = Common(some, some)
        some.append(7)
        part.append(8)
        self.assertEqual((made.some, made.part), ([0, 1], [2]))
        same.some.append(9)
        self.assertEqual(same.part, [0, 1])
