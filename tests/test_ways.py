"""Point 12: walks of a few steps, counted and numbered."""

import unittest

from helper import by_goal, chance_words, come_to, soon, words
from oxhide.errors import BadNumber, BadWord, NoNumber, TooLong
from oxhide.ways import how_many, number_of, numbered

GREAT = 10 ** 59


class WaysCase(unittest.TestCase):
    @classmethod
    def setUpClass(cls):
        # For each number of steps the words of each goal, rising.
        cls.groups = [by_goal(words(many)) for many in range(9)]


class HowManyTest(WaysCase):
    def test_by_hand(self):
        self.assertEqual(how_many(0, 0, 0, 0), 1)
        self.assertEqual(how_many(1, 1, 0, 0), 1)
        self.assertEqual(how_many(1, 0, 0, 0), 0)
        self.assertEqual(how_many(2, 0, 0, 0), 4)
        self.assertEqual(how_many(4, 2, 2, 2), 2)
        self.assertEqual(how_many(4, 0, 0, 1), 4)
        self.assertEqual(how_many(4, 0, 0, 0), 28)

    def test_against_all_words(self):
        for many, groups in enumerate(self.groups):
            for goal, group in groups.items():
                self.assertEqual(how_many(many, *goal), len(group), (many, goal))

    def test_where_none_comes(self):
        for many in range(6):
            for x in range(-6, 7):
                for y in range(-6, 7):
                    for land in range(-8, 9):
                        if (x, y, land) not in self.groups[many]:
                            self.assertEqual(how_many(many, x, y, land), 0)
        for goal in ((9, 0, 0), (0, 0, 17), (0, 0, -17), (1, 0, 0), (GREAT, 0, 0), (0, -GREAT, 0), (0, 0, GREAT)):
            self.assertEqual(how_many(8, *goal), 0)

    def test_all_together_four_to_the_power_of_the_steps(self):
        for many, groups in enumerate(self.groups):
            self.assertEqual(sum(how_many(many, *goal) for goal in groups), 4 ** many)


class NumbersTest(WaysCase):
    def assertGroup(self, many, goal, group):
        """The words of a goal, rising, there and back, and none beside them."""
        self.assertEqual(group, sorted(group))
        for number, letters in enumerate(group):
            self.assertEqual(numbered(many, *goal, number), letters)
            self.assertEqual(number_of(letters), number)
        for number in (-1, -2, -GREAT, len(group), len(group) + 1, GREAT):
            with self.assertRaises(NoNumber):
                numbered(many, *goal, number)

    def test_by_hand(self):
        self.assertEqual(numbered(0, 0, 0, 0, 0), "")
        self.assertEqual([numbered(2, 0, 0, 0, k) for k in range(4)], ["ew", "ns", "sn", "we"])
        self.assertEqual([numbered(4, 0, 0, 1, k) for k in range(4)], ["enws", "nwse", "senw", "wsen"])
        self.assertEqual([numbered(4, 2, 2, 2, k) for k in range(2)], ["enne", "neen"])
        self.assertEqual([number_of(letters) for letters in ("", "ew", "ns", "sn", "we")], [0, 0, 1, 2, 3])

    def test_south_goes_ahead_of_west(self):
        self.assertLess(number_of("senw"), number_of("wsen"))
        self.assertEqual(numbered(3, -1, 0, 0, 0), "eww")
        self.assertEqual(numbered(2, -1, -1, 0, 0), "sw")

    def test_all_words_of_nought_to_five_steps(self):
        for many in range(6):
            for goal, group in self.groups[many].items():
                self.assertGroup(many, goal, group)

    def test_six_to_eight_steps(self):
        for many in (6, 7, 8):
            for at, (goal, group) in enumerate(self.groups[many].items()):
                if at % (4 * many) == 0 or many == 6 and goal[0] > 1:
                    self.assertGroup(many, goal, group)

    def test_words_by_chance_of_six_to_eight_steps(self):
        for many in (6, 7, 8):
            for letters in chance_words(300, many):
                goal = come_to(letters)
                number = self.groups[many][goal].index(letters)
                self.assertEqual(number_of(letters), number)
                self.assertEqual(numbered(many, *goal, number), letters)

    def test_the_most_frequent_one(self):
        group = self.groups[8][(0, 0, 0)]
        for number in list(range(0, len(group), 97)) + [len(group) - 1]:
            self.assertEqual(numbered(8, 0, 0, 0, number), group[number])
            self.assertEqual(number_of(group[number]), number)
        with self.assertRaises(NoNumber):
            numbered(8, 0, 0, 0, len(group))

    def test_told_soon(self):
        with soon():
            for letters in chance_words(200, 8, seed=2):
                goal = come_to(letters)
                self.assertEqual(numbered(8, *goal, number_of(letters)), letters)
                self.assertEqual(how_many(8, *goal), len(self.groups[8][goal]))

    def test_asked_again_the_same_is_told(self):
        for _ in range(3):
            self.assertEqual(how_many(4, 0, 0, 0), 28)
            self.assertEqual(numbered(4, 0, 0, 1, 2), "senw")
            self.assertEqual(number_of("senw"), 2)


class RefusedTest(WaysCase):
    def test_numbers_of_steps(self):
        for many in (-1, -2, -8, 9, 10, 1000, GREAT, -GREAT):
            for goal in ((0, 0, 0), (1, 0, 0), (9, 0, 0)):
                with self.subTest(many=many, goal=goal), self.assertRaises(BadNumber):
                    how_many(many, *goal)

    def test_bad_number_goes_ahead_of_no_number(self):
        for many in (-1, 9, GREAT, -GREAT):
            for number in (-1, 0, 1, 10 ** 6, GREAT, -GREAT):
                with self.subTest(many=many, number=number), self.assertRaises(BadNumber):
                    numbered(many, 0, 0, 0, number)

    def test_where_none_comes_no_number_is_had(self):
        for many, goal in (
            (0, (1, 0, 0)), (0, (0, 0, 1)), (1, (0, 0, 0)), (2, (0, 0, 1)), (8, (9, 0, 0)), (8, (0, 0, GREAT)),
        ):
            for number in (-1, 0, 1):
                with self.subTest(many=many, goal=goal), self.assertRaises(NoNumber):
                    numbered(many, *goal, number)

    def test_numbers_below_nought_and_beyond_the_last(self):
        for many, goal in ((0, (0, 0, 0)), (2, (0, 0, 0)), (4, (2, 2, 2)), (8, (0, 0, 0)), (8, (8, 0, 0))):
            count = len(self.groups[many][goal])
            for number in (-1, -2, -count, -GREAT, count, count + 1, GREAT):
                with self.subTest(many=many, number=number), self.assertRaises(NoNumber):
                    numbered(many, *goal, number)

    def test_words_of_more_than_eight_letters(self):
        self.assertEqual(number_of("e" * 8), 0)
        for length in (9, 10, 59, 60):
            with self.subTest(length=length), self.assertRaises(BadNumber):
                number_of("e" * length)

    def test_the_refusals_of_the_word_go_ahead_of_bad_number(self):
        with self.assertRaises(TooLong):
            number_of("e" * 61)
        with self.assertRaises(TooLong):
            number_of("x" * 61)
        for letters, at in (("e" * 9 + "x", 9), ("x" * 60, 0), ("enx", 2)):
            with self.assertRaises(BadWord) as caught:
                number_of(letters)
            self.assertEqual(caught.exception.at, at)


if __name__ == "__main__":
    unittest.main()
