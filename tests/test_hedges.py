"""Points 14 and 15: hedges, the rounds that they make, and plain hedges with their inner points."""

import random
import unittest

from helper import MOST, chance_hedges, come_to, points, rounds_gone, runs, soon, word, words
from oxhide.errors import BadRun, NotHome, TooLong
from oxhide.hedges import fields, inner, is_plain, rounds
from oxhide.runs import about, mirrored, times, turned
from oxhide.tallies import tally

GREAT = 10 ** 59

SQUARE = [("e", 1), ("n", 1), ("w", 1), ("s", 1)]
# Two fields side by side, the beginning in the middle of their south side.
PAIR = [("e", 1), ("n", 1), ("w", 2), ("s", 1), ("e", 1)]
# Two fields that meet at the beginning, gone round to unlike sides.
CROSSED = [("e", 1), ("n", 1), ("w", 1), ("s", 2), ("w", 1), ("n", 1), ("e", 1)]

ASKED = {
    "rounds": lambda walk: rounds(walk, 0, 0),
    "fields": fields,
    "is_plain": is_plain,
    "inner": inner,
}
# Those that are bound to 200 steps.
BOUND = ("fields", "is_plain", "inner")


def small_hedges():
    """Each word of at most eight letters that comes home."""
    for length in (0, 2, 4, 6, 8):
        for letters in words(length):
            if letters.count("e") == letters.count("w") and letters.count("n") == letters.count("s"):
                yield letters


def skyline(heights):
    """The plain hedge about columns of these heights, beginning at its south-west corner."""
    letters = "e" * len(heights)
    high = 0
    for height in reversed(heights):
        letters += "n" * (height - high) + "s" * (high - height) + "w"
        high = height
    return letters + "s" * high


def chance_plain(many, seed=1):
    """Plain hedges by chance, begun anywhere, turned and gone about."""
    source = random.Random(seed)
    for _ in range(many):
        letters = skyline([source.randint(1, 9) for _ in range(source.randint(1, 12))])
        start = source.randrange(len(letters))
        walk = runs(letters[start:] + letters[:start])
        for _ in range(source.randrange(4)):
            walk = turned(walk)
        yield about(walk) if source.random() < 0.5 else walk


def plain_by_hand(letters):
    """Whether a word that comes home is a plain hedge."""
    come = points(letters)[:-1]
    return len(letters) >= 4 and len(set(come)) == len(come)


def inner_by_hand(letters):
    """The inner points, as point 15 says what they are."""
    gone_round = rounds_gone(letters)
    steps_on = set(points(letters))
    corners = {(column, row) for column, row in gone_round}
    told = 0
    for x, y in corners:
        about_it = [(x, y), (x - 1, y), (x, y - 1), (x - 1, y - 1)]
        if (x, y) not in steps_on and all(field in gone_round for field in about_it):
            told += 1
    return told


class RoundsTest(unittest.TestCase):
    def test_by_hand(self):
        self.assertEqual(rounds(SQUARE, 0, 0), 1)
        self.assertEqual(rounds(about(SQUARE), 0, 0), -1)
        for field in ((-1, 0), (1, 0), (0, 1), (0, -1), (1, 1), (-1, -1)):
            self.assertEqual(rounds(SQUARE, *field), 0)
        self.assertEqual(rounds(times(SQUARE, 7), 0, 0), 7)
        self.assertEqual(rounds(PAIR, 0, 0), 1)
        self.assertEqual(rounds(PAIR, -1, 0), 1)
        self.assertEqual([rounds(CROSSED, 0, 0), rounds(CROSSED, -1, -1), rounds(CROSSED, -1, 0)], [1, -1, 0])

    def test_the_empty_walk_is_a_hedge(self):
        for column in (-1, 0, 1, GREAT, -GREAT):
            self.assertEqual(rounds([], column, column), 0)

    def test_out_and_back_goes_round_nothing(self):
        for walk in ([("e", 5), ("w", 5)], [("s", 3), ("n", 3)], [("e", 2), ("n", 2), ("s", 2), ("w", 2)]):
            for column in range(-6, 7):
                for row in range(-6, 7):
                    self.assertEqual(rounds(walk, column, row), 0)

    def test_against_small_hedges(self):
        for letters in small_hedges():
            walk = runs(letters)
            told = rounds_gone(letters)
            for column in range(-3, 3):
                for row in range(-3, 3):
                    self.assertEqual(rounds(walk, column, row), told.get((column, row), 0), letters)

    def test_against_hedges_by_chance(self):
        for letters in chance_hedges(60, 120):
            walk = runs(letters)
            told = rounds_gone(letters)
            for column in range(-12, 12):
                for row in range(-12, 12):
                    self.assertEqual(rounds(walk, column, row), told.get((column, row), 0))

    def test_walks_that_are_not_tidied(self):
        walk = [("e", 1), ("e", 1), ("n", 1), ("n", 1), ("w", 2), ("s", 1), ("s", 1)]
        self.assertEqual([rounds(walk, 1, row) for row in range(-1, 3)], [0, 1, 1, 0])

    def test_long_runs(self):
        walk = [("e", MOST), ("n", MOST), ("w", MOST), ("s", MOST)]
        with soon():
            for column, row, told in (
                (0, 0, 1), (MOST - 1, MOST - 1, 1), (MOST, 0, 0), (0, MOST, 0), (-1, 5, 0), (5, -1, 0),
                (MOST // 2, MOST // 3, 1), (GREAT, 0, 0), (-GREAT, 0, 0), (0, GREAT, 0), (0, -GREAT, 0),
            ):
                self.assertEqual(rounds(walk, column, row), told)
                self.assertEqual(rounds(about(walk), column, row), 0 - told)
                self.assertEqual(rounds(times(walk, 50), column, row), 50 * told)

    def test_long_runs_side_by_side(self):
        walk = [("e", MOST), ("n", 5), ("w", MOST), ("s", 10), ("w", 7), ("n", MOST), ("e", 7), ("s", MOST), ("n", 5)]
        with soon():
            told = [rounds(walk, column, row) for column, row in ((3, 0), (3, 5), (-1, -1), (-7, -5), (-8, 0), (-1, 9))]
        self.assertEqual(told, [1, 0, -1, -1, 0, -1])

    def test_the_land_is_the_sum_of_the_rounds(self):
        for letters in chance_hedges(60, 60, seed=2):
            walk = runs(letters)
            together = sum(rounds(walk, column, row) for column in range(-20, 20) for row in range(-20, 20))
            self.assertEqual(together, come_to(letters)[2])


class FieldsTest(unittest.TestCase):
    def test_by_hand(self):
        self.assertEqual(fields(SQUARE), [(0, 0, 1)])
        self.assertEqual(fields(about(SQUARE)), [(0, 0, -1)])
        self.assertEqual(fields(times(SQUARE, 50)), [(0, 0, 50)])
        self.assertEqual(fields([("n", 2), ("e", 1), ("s", 2), ("w", 1)]), [(0, 0, -1), (0, 1, -1)])
        self.assertEqual(fields(PAIR), [(-1, 0, 1), (0, 0, 1)])
        self.assertEqual(fields(CROSSED), [(-1, -1, -1), (0, 0, 1)])

    def test_the_empty_walk_and_out_and_back(self):
        for walk in ([], [("e", 1), ("w", 1)], [("n", 100), ("s", 100)], [("w", 3), ("s", 4), ("n", 4), ("e", 3)]):
            self.assertEqual(fields(walk), [])

    def test_kinds(self):
        told = fields(CROSSED)
        self.assertIs(type(told), list)
        self.assertTrue(all(type(field) is tuple for field in told))

    def assertFields(self, letters):
        told = fields(runs(letters))
        self.assertEqual(told, sorted((*field, many) for field, many in rounds_gone(letters).items()))
        self.assertEqual(sum(many for column, row, many in told), come_to(letters)[2])

    def test_against_small_hedges(self):
        for letters in small_hedges():
            self.assertFields(letters)

    def test_against_hedges_by_chance(self):
        for letters in chance_hedges(100, 200, seed=3):
            self.assertFields(letters)

    def test_columns_go_ahead_of_rows_and_numbers_not_texts_are_ordered(self):
        told = fields([("e", 12), ("n", 11), ("w", 12), ("s", 11)])
        self.assertEqual(told, [(column, row, 1) for column in range(12) for row in range(11)])
        told = fields([("w", 12), ("s", 11), ("e", 12), ("n", 11)])
        self.assertEqual(told, [(column, row, 1) for column in range(-12, 0) for row in range(-11, 0)])

    def test_hedges_of_200_and_of_202_steps(self):
        wide = [("e", 50), ("n", 50), ("w", 50), ("s", 50)]
        self.assertEqual(fields(wide), [(column, row, 1) for column in range(50) for row in range(50)])
        self.assertEqual(fields([("e", 99), ("n", 1), ("w", 99), ("s", 1)]), [(k, 0, 1) for k in range(99)])
        self.assertEqual(fields([("w", 1), ("n", 99), ("e", 1), ("s", 99)]), [(-1, k, -1) for k in range(99)])
        self.assertEqual(fields([("e", 100), ("w", 100)]), [])
        self.assertEqual(fields([("e", 1), ("w", 1)] * 100), [])

    def test_told_lists_are_new_ones(self):
        told = fields(CROSSED)
        told.append((9, 9, 9))
        told[0] = None
        self.assertEqual(fields(CROSSED), [(-1, -1, -1), (0, 0, 1)])
        empty = fields([])
        empty.append(1)
        self.assertEqual(fields([]), [])


class PlainTest(unittest.TestCase):
    def test_by_hand(self):
        self.assertIs(is_plain(SQUARE), True)
        self.assertIs(is_plain(about(SQUARE)), True)
        self.assertIs(is_plain([("e", 2), ("n", 1), ("w", 2), ("s", 1)]), True)
        self.assertIs(is_plain(PAIR), True)
        for walk in ([], [("e", 1), ("w", 1)], [("e", 2), ("w", 2)], times(SQUARE, 2), CROSSED):
            self.assertIs(is_plain(walk), False)
        # Home comes once too early, at the very beginning and in the middle.
        self.assertIs(is_plain([("e", 1), ("w", 1)] + SQUARE), False)
        self.assertIs(is_plain(SQUARE + [("e", 1), ("w", 1)]), False)

    def test_a_point_come_to_twice_within(self):
        walk = [("e", 2), ("n", 2), ("w", 1), ("s", 1), ("e", 2), ("n", 2), ("w", 3), ("s", 3)]
        self.assertIs(is_plain(walk), False)
        self.assertIsNone(inner(walk))
        spur = [("e", 2), ("n", 1), ("e", 1), ("w", 1), ("n", 1), ("w", 2), ("s", 2)]
        self.assertIs(is_plain(spur), False)
        self.assertIsNone(inner(spur))

    def test_against_small_hedges(self):
        for letters in small_hedges():
            self.assertIs(is_plain(runs(letters)), plain_by_hand(letters))

    def test_plain_ones_by_chance(self):
        for walk in chance_plain(60):
            self.assertIs(is_plain(walk), True)
            told = fields(walk)
            side = told[0][2]
            self.assertIn(side, (1, -1))
            self.assertTrue(all(many == side for column, row, many in told))
            self.assertEqual(tally(walk)[2], side * len(told))

    def test_hedges_of_200_steps(self):
        self.assertIs(is_plain([("e", 99), ("n", 1), ("w", 99), ("s", 1)]), True)
        self.assertIs(is_plain([("e", 50), ("n", 50), ("w", 50), ("s", 50)]), True)
        self.assertIs(is_plain([("e", 100), ("w", 100)]), False)
        self.assertIs(is_plain([("n", 1), ("s", 1)] * 100), False)


class InnerTest(unittest.TestCase):
    def test_by_hand(self):
        self.assertEqual(inner(SQUARE), 0)
        self.assertEqual(inner(about(SQUARE)), 0)
        self.assertEqual(inner([("e", 3), ("n", 2), ("w", 3), ("s", 2)]), 2)
        self.assertEqual(inner([("n", 3), ("e", 4), ("s", 3), ("w", 4)]), 6)
        self.assertEqual(inner([("e", 2), ("n", 1), ("w", 1), ("n", 1), ("w", 1), ("s", 2)]), 0)

    def test_none_where_it_is_not_plain(self):
        for walk in ([], [("e", 1), ("w", 1)], [("n", 7), ("s", 7)], times(SQUARE, 2), CROSSED, SQUARE + SQUARE):
            self.assertIsNone(inner(walk))

    def test_against_small_hedges(self):
        for letters in small_hedges():
            told = inner_by_hand(letters) if plain_by_hand(letters) else None
            self.assertEqual(inner(runs(letters)), told, letters)

    def test_plain_ones_by_chance(self):
        for walk in chance_plain(80, seed=2):
            letters = word(walk)
            self.assertEqual(inner(walk), inner_by_hand(letters))
            self.assertEqual(abs(tally(walk)[2]), inner(walk) + len(letters) // 2 - 1)
            self.assertEqual(inner(mirrored(walk)), inner(walk))

    def test_hedges_of_200_steps(self):
        self.assertEqual(inner([("e", 50), ("n", 50), ("w", 50), ("s", 50)]), 49 * 49)
        self.assertEqual(inner([("w", 99), ("n", 1), ("e", 99), ("s", 1)]), 0)
        self.assertIsNone(inner([("e", 100), ("w", 100)]))


class HedgesRefusedTest(unittest.TestCase):
    def test_walks_that_do_not_come_home(self):
        for walk in (
            [("e", 1)], [("n", 1)], [("w", 3), ("e", 2)], [("s", 3), ("n", 4)], SQUARE + [("e", 1)],
            [("e", 5), ("n", 5), ("w", 5), ("s", 4)], [("e", MOST), ("w", MOST - 1)],
        ):
            for name, call in ASKED.items():
                with self.subTest(name, walk=walk), self.assertRaises(NotHome):
                    call(walk)

    def test_hedges_of_more_than_200_steps(self):
        for walk in (
            [("e", 101), ("w", 101)], [("e", 50), ("n", 51), ("w", 50), ("s", 51)],
            [("e", 2), ("w", 2)] + [("n", 1), ("s", 1)] * 99,
            [("e", MOST), ("n", MOST), ("w", MOST), ("s", MOST)],
        ):
            for name in BOUND:
                with self.subTest(name, walk=walk), soon(), self.assertRaises(TooLong):
                    ASKED[name](walk)
            with self.subTest("rounds", walk=walk):
                self.assertIn(rounds(walk, 0, 0), (0, 1))

    def test_not_home_goes_ahead_of_too_long(self):
        for walk in ([("e", 201)], [("e", 101), ("w", 102)], [("n", MOST)], [("e", 1), ("n", 1)] * 100):
            for name, call in ASKED.items():
                with self.subTest(name, walk=walk), soon(), self.assertRaises(NotHome):
                    call(walk)

    def test_what_point_3_refuses_goes_ahead_of_all(self):
        for name, call in ASKED.items():
            with self.subTest(name):
                with self.assertRaises(TooLong):
                    call([("e", 1)] * 201)
                with self.assertRaises(TooLong):
                    call([("e", 1), ("w", 1)] * 101)
                for walk, at in (
                    ([("e", 1), ("x", 1)], 1), ([("e", MOST + 1), ("w", MOST + 1)], 0), ([("n", 300), ("s", 0)], 1),
                    ([("e", 2), ("w", 1), ("w", 1), ("n", 0)], 3), ([("e", -1), ("w", -1)], 0),
                ):
                    with self.assertRaises(BadRun) as caught:
                        call(walk)
                    self.assertEqual(caught.exception.at, at)

    def test_the_walk_handed_in_stays_as_it_was(self):
        for name, call in ASKED.items():
            walk = [("e", 1), ("e", 1), ("n", 1), ("w", 2), ("s", 1)]
            first = call(walk)
            self.assertEqual(walk, [("e", 1), ("e", 1), ("n", 1), ("w", 2), ("s", 1)])
            self.assertEqual(call(walk), first)


if __name__ == "__main__":
    unittest.main()
