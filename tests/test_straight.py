"""Point 13: straight walks, counted and numbered."""

import itertools
import math
import random
import unittest

from helper import by_goal, come_to, soon
from oxhide.errors import BadNumber, BadWord, NoNumber, TooLong
from oxhide.straight import straight_many, straight_number, straight_word

GREAT = 10 ** 59

# One beyond 0 to 12, and far beyond.
NO_SIDES = [-1, -2, -12, -GREAT, 13, 14, 100, GREAT]


def straight_words(x, y):
    """Each straight word to (x, y), in the order of the words."""
    told = []
    for norths in itertools.combinations(range(x + y), y):
        told.append("".join("n" if at in norths else "e" for at in range(x + y)))
    return sorted(told)


def chance_straight(x, y, many, seed=1):
    """Straight words to (x, y) by chance, the same ones each time."""
    source = random.Random(seed)
    for _ in range(many):
        letters = list("e" * x + "n" * y)
        source.shuffle(letters)
        yield "".join(letters)


def gaussian(x, y):
    """How many sets of y of the places 0 to x + y - 1 have each sum, less the least sum: another way to count."""
    table = {(0, 0): 1}
    for place in range(x + y):
        more = dict(table)
        for (chosen, total), many in table.items():
            key = (chosen + 1, total + place)
            more[key] = more.get(key, 0) + many
        table = more
    least = y * (y - 1) // 2
    return [table.get((y, least + land), 0) for land in range(x * y + 1)]


class StraightManyTest(unittest.TestCase):
    def test_by_hand(self):
        self.assertEqual(straight_many(0, 0, 0), 1)
        self.assertEqual(straight_many(1, 1, 0), 1)
        self.assertEqual(straight_many(1, 1, 1), 1)
        self.assertEqual([straight_many(2, 2, land) for land in range(-1, 6)], [0, 1, 1, 2, 1, 1, 0])
        self.assertEqual([straight_many(3, 2, land) for land in range(7)], [1, 1, 2, 2, 2, 1, 1])

    def test_along_the_sides_only_the_land_nought_is_swept(self):
        for far in range(13):
            for land in (-1, 1, far, 12):
                if land != 0:
                    self.assertEqual(straight_many(far, 0, land), 0)
                    self.assertEqual(straight_many(0, far, land), 0)
            self.assertEqual(straight_many(far, 0, 0), 1)
            self.assertEqual(straight_many(0, far, 0), 1)

    def test_against_all_words(self):
        for x in range(7):
            for y in range(7):
                groups = by_goal(straight_words(x, y))
                for land in range(-3, x * y + 4):
                    many = len(groups.get((x, y, land), []))
                    self.assertEqual(straight_many(x, y, land), many, (x, y, land))

    def test_all_lands_together_ways_to_choose(self):
        for x in range(13):
            for y in (0, 1, 5, 11, 12):
                together = sum(straight_many(x, y, land) for land in range(x * y + 1))
                self.assertEqual(together, math.comb(x + y, x))

    def test_as_many_with_the_rest_of_the_land(self):
        for x, y in ((12, 12), (12, 7), (3, 11), (5, 5), (12, 0)):
            for land in range(-2, x * y + 3):
                self.assertEqual(straight_many(x, y, land), straight_many(x, y, x * y - land))
                self.assertEqual(straight_many(x, y, land), straight_many(y, x, land))

    def test_lands_at_the_edges(self):
        for x in (1, 2, 11, 12):
            for y in (1, 2, 11, 12):
                for land in (0, 1, x * y - 1, x * y):
                    self.assertEqual(straight_many(x, y, land), 1)
                for land in (-1, -2, -GREAT, x * y + 1, x * y + 2, GREAT):
                    self.assertEqual(straight_many(x, y, land), 0)

    def test_as_many_as_chosen_places(self):
        for x, y in ((12, 12), (12, 11), (9, 12), (12, 1), (8, 8), (0, 12), (12, 0)):
            self.assertEqual([straight_many(x, y, land) for land in range(x * y + 1)], gaussian(x, y))


class StraightNumbersTest(unittest.TestCase):
    def test_by_hand(self):
        self.assertEqual(straight_word(0, 0, 0, 0), "")
        self.assertEqual(straight_number(""), 0)
        self.assertEqual([straight_word(2, 2, 2, number) for number in range(2)], ["enne", "neen"])
        self.assertEqual([straight_number(letters) for letters in ("enne", "neen")], [0, 1])
        self.assertEqual(straight_word(12, 12, 144, 0), "e" * 12 + "n" * 12)
        self.assertEqual(straight_word(12, 12, 0, 0), "n" * 12 + "e" * 12)

    def test_all_words_of_small_points(self):
        for x in range(6):
            for y in range(6):
                for goal, group in by_goal(straight_words(x, y)).items():
                    for number, letters in enumerate(group):
                        self.assertEqual(straight_word(*goal, number), letters)
                        self.assertEqual(straight_number(letters), number)
                    for number in (-1, -len(group), -GREAT, len(group), len(group) + 1, GREAT):
                        with self.assertRaises(NoNumber):
                            straight_word(*goal, number)

    def test_words_of_great_points_rise(self):
        for x, y, land in ((12, 12, 20), (12, 5, 17), (4, 12, 24), (12, 12, 140)):
            told = [straight_word(x, y, land, number) for number in range(min(150, straight_many(x, y, land)))]
            self.assertEqual(told, sorted(set(told)))
            for number, letters in enumerate(told):
                self.assertEqual(come_to(letters), (x, y, land))
                self.assertEqual(straight_number(letters), number)

    def test_the_last_numbers(self):
        for x, y, land in ((12, 12, 72), (12, 12, 71), (11, 12, 66), (12, 3, 18)):
            many = straight_many(x, y, land)
            for number in (0, 1, many // 2, many - 2, many - 1):
                letters = straight_word(x, y, land, number)
                self.assertEqual(come_to(letters), (x, y, land))
                self.assertEqual(straight_number(letters), number)
            for number in (many, many + 1, -1):
                with self.assertRaises(NoNumber):
                    straight_word(x, y, land, number)

    def test_there_and_back_by_chance(self):
        for x, y in ((12, 12), (12, 8), (7, 12), (1, 12), (12, 1)):
            for letters in chance_straight(x, y, 30):
                number = straight_number(letters)
                self.assertEqual(straight_word(*come_to(letters), number), letters)

    def test_told_soon(self):
        with soon():
            for letters in chance_straight(12, 12, 100, seed=2):
                self.assertEqual(straight_word(*come_to(letters), straight_number(letters)), letters)

    def test_asked_again_the_same_is_told(self):
        for _ in range(3):
            self.assertEqual(straight_many(5, 5, 12), gaussian(5, 5)[12])
            self.assertEqual(straight_word(2, 2, 2, 1), "neen")
            self.assertEqual(straight_number("neen"), 1)


class StraightRefusedTest(unittest.TestCase):
    def test_sides_beyond_the_bounds(self):
        for side in NO_SIDES:
            for fine in (0, 5, 12):
                for land in (-1, 0, 1, GREAT):
                    with self.subTest(side=side, fine=fine, land=land):
                        with self.assertRaises(BadNumber):
                            straight_many(side, fine, land)
                        with self.assertRaises(BadNumber):
                            straight_many(fine, side, land)

    def test_the_bounds_belong_to_them(self):
        for x in (0, 12):
            for y in (0, 12):
                self.assertEqual(straight_many(x, y, 0), 1)
                self.assertEqual(straight_word(x, y, 0, 0), "n" * y + "e" * x)
                self.assertEqual(straight_number("n" * y + "e" * x), 0)

    def test_bad_number_goes_ahead_of_no_number(self):
        for side in NO_SIDES:
            for number in (-1, 0, 1, GREAT, -GREAT):
                with self.subTest(side=side, number=number):
                    with self.assertRaises(BadNumber):
                        straight_word(side, 3, 0, number)
                    with self.assertRaises(BadNumber):
                        straight_word(3, side, 0, number)

    def test_where_none_comes_no_number_is_had(self):
        for x, y in ((0, 0), (1, 1), (5, 0), (12, 12)):
            for land in (-1, x * y + 1, GREAT, -GREAT):
                for number in (-1, 0, 1):
                    with self.subTest(x=x, y=y, land=land), self.assertRaises(NoNumber):
                        straight_word(x, y, land, number)

    def test_words_that_are_not_straight(self):
        for letters in ("w", "s", "ew", "ns", "eens", "wnnn", "s" * 60, "en" * 12 + "w", "e" * 13 + "w"):
            with self.subTest(letters), self.assertRaises(BadNumber):
                straight_number(letters)

    def test_words_that_go_too_far(self):
        self.assertEqual(straight_number("e" * 12), 0)
        self.assertEqual(straight_number("n" * 12), 0)
        for letters in ("e" * 13, "n" * 13, "en" * 13, "e" * 60, "n" * 60, "e" * 12 + "n" * 13, "n" * 12 + "e" * 13):
            with self.subTest(letters), self.assertRaises(BadNumber):
                straight_number(letters)

    def test_the_refusals_of_the_word_go_ahead(self):
        for letters in ("w" * 61, "e" * 61, "x" * 61):
            with self.assertRaises(TooLong):
                straight_number(letters)
        for letters, at in (("wx", 1), ("e" * 20 + "x", 20), ("s" * 59 + "E", 59), ("x", 0)):
            with self.assertRaises(BadWord) as caught:
                straight_number(letters)
            self.assertEqual(caught.exception.at, at)


if __name__ == "__main__":
    unittest.main()
