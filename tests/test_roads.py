"""Point 16: two roads to one point, the land and the fields between them."""

import random
import unittest

from helper import MOST, come_to, rounds_gone, runs, small_walks, soon, word
from oxhide.errors import BadRun, NotMet, TooLong
from oxhide.roads import between, fields_between
from oxhide.runs import about
from oxhide.tallies import tally

LOW = [("e", 3), ("n", 2)]
HIGH = [("n", 2), ("e", 3)]

BACK = str.maketrans("enws", "wsen")


def hedge_word(one, other):
    """The word of the hedge that goes the first road and then the second one about."""
    return one + other[::-1].translate(BACK)


def chance_roads(many, steps_most, seed=1):
    """Pairs of words to one point by chance, the same ones each time."""
    source = random.Random(seed)
    for _ in range(many):
        x = source.randint(-9, 9)
        y = source.randint(-9, 9)
        told = []
        for _ in range(2):
            letters = ("e" if x > 0 else "w") * abs(x) + ("n" if y > 0 else "s") * abs(y)
            pairs = source.randint(0, (steps_most - len(letters)) // 2)
            letters += "".join(source.choice(["ew", "ns"]) for _ in range(pairs))
            told.append("".join(source.sample(letters, len(letters))))
        yield tuple(told)


class BetweenTest(unittest.TestCase):
    def test_by_hand(self):
        self.assertEqual(between(LOW, HIGH), 6)
        self.assertEqual(between(HIGH, LOW), -6)
        self.assertEqual(between(LOW, LOW), 0)
        self.assertEqual(between([], []), 0)
        self.assertEqual(between([], [("e", 1), ("n", 1), ("w", 1), ("s", 1)]), -1)
        self.assertEqual(between([("e", 1), ("n", 1), ("w", 1), ("s", 1)], []), 1)

    def test_against_small_walks(self):
        by_point = {}
        for walk in small_walks():
            by_point.setdefault(come_to(word(walk))[:2], []).append(walk)
        for walks in by_point.values():
            for one in walks[::7]:
                for other in walks[::5]:
                    told = between(one, other)
                    self.assertEqual(told, come_to(word(one))[2] - come_to(word(other))[2])
                    self.assertEqual(told, come_to(hedge_word(word(one), word(other)))[2])

    def test_roads_by_chance(self):
        for one, other in chance_roads(100, 200):
            told = between(runs(one), runs(other))
            self.assertEqual(told, sum(rounds_gone(hedge_word(one, other)).values()))
            self.assertEqual(told, -between(runs(other), runs(one)))

    def test_long_runs(self):
        with soon():
            self.assertEqual(between([("e", MOST), ("n", MOST)], [("n", MOST), ("e", MOST)]), MOST * MOST)
            one = [("e", MOST), ("n", MOST), ("w", MOST), ("s", MOST)] * 50
            self.assertEqual(between(one, []), 50 * MOST * MOST)
            self.assertEqual(between([], one), -50 * MOST * MOST)
            self.assertEqual(between(one, about(one)), 100 * MOST * MOST)

    def test_the_land_of_the_hedge(self):
        one = [("e", MOST), ("n", 7), ("w", 3), ("s", 9)]
        other = [("s", 5), ("e", MOST - 3), ("n", 3)]
        hedge = one + about(other)
        self.assertEqual(between(one, other), tally(hedge)[2])

    def test_not_met(self):
        for one, other in (
            ([], [("e", 1)]), ([("n", 1)], []), ([("e", 1)], [("w", 1)]), (LOW, LOW + [("n", 1)]), (LOW, [("e", 3)]),
            ([("e", MOST)], [("e", MOST - 1)]), ([("e", 2), ("n", 3)], [("n", 2), ("e", 3)]),
        ):
            for call in (between, fields_between):
                with self.subTest(one=one, other=other), self.assertRaises(NotMet):
                    call(one, other)


class FieldsBetweenTest(unittest.TestCase):
    def test_by_hand(self):
        self.assertEqual(fields_between(LOW, HIGH), [(column, row, 1) for column in range(3) for row in range(2)])
        self.assertEqual(fields_between(HIGH, LOW), [(column, row, -1) for column in range(3) for row in range(2)])
        self.assertEqual(fields_between(LOW, LOW), [])
        self.assertEqual(fields_between([], []), [])
        zigzag = [("n", 1), ("e", 2), ("n", 1)]
        straight = [("e", 1), ("n", 2), ("e", 1)]
        self.assertEqual(fields_between(zigzag, straight), [(0, 0, -1), (1, 1, 1)])
        self.assertEqual(between(zigzag, straight), 0)

    def test_roads_by_chance(self):
        for one, other in chance_roads(100, 100, seed=2):
            told = fields_between(runs(one), runs(other))
            gone_round = rounds_gone(hedge_word(one, other))
            self.assertEqual(told, sorted((*field, many) for field, many in gone_round.items()))
            self.assertEqual(sum(many for column, row, many in told), between(runs(one), runs(other)))
            self.assertIs(type(told), list)
            self.assertTrue(all(type(field) is tuple for field in told))

    def test_roads_of_100_steps(self):
        one = [("e", 50), ("n", 50)]
        other = [("n", 50), ("e", 50)]
        self.assertEqual(fields_between(one, other), [(column, row, 1) for column in range(50) for row in range(50)])
        self.assertEqual(fields_between([("e", 1), ("w", 1)] * 50, []), [])
        self.assertEqual(fields_between([("e", 1), ("w", 1)] * 50, [("n", 1), ("s", 1)] * 50), [])
        self.assertEqual(fields_between([("e", 1), ("n", 1)] * 50, [("n", 1), ("e", 1)] * 50),
                         [(k, k, 1) for k in range(50)])

    def test_roads_of_101_steps(self):
        long = [("e", 51), ("n", 50)]
        for other in (long, [("n", 50), ("e", 51)], [("n", 51), ("e", 51), ("s", 1)]):
            with self.assertRaises(TooLong):
                fields_between(long, other)
        # Each road is bound by itself, not the two together.
        for one, other in (([("e", 51), ("w", 51)], []), ([], [("e", 51), ("w", 51)]),
                           ([("e", 1)], [("e", 51), ("w", 50)]), ([("e", 51), ("w", 50)], [("e", 1)]),
                           ([("e", MOST)], [("e", MOST)])):
            with self.subTest(one=one, other=other), soon(), self.assertRaises(TooLong):
                fields_between(one, other)
            self.assertEqual(between(one, other), 0)

    def test_not_met_goes_ahead_of_too_long(self):
        for one, other in (([("e", 101)], []), ([], [("e", 101)]), ([("e", MOST)], [("n", MOST)])):
            with self.subTest(one=one, other=other), self.assertRaises(NotMet):
                fields_between(one, other)

    def test_what_point_3_refuses_goes_ahead_of_all(self):
        for call in (between, fields_between):
            for one, other, at in (
                ([("e", 0)], [("e", 101)], 0), ([("e", 101)], [("n", 1), ("x", 1)], 1), ([], [("e", MOST + 1)], 0),
            ):
                with self.assertRaises(BadRun) as caught:
                    call(one, other)
                self.assertEqual(caught.exception.at, at)

    def test_told_lists_are_new_ones_and_handed_ones_stay(self):
        one = list(LOW)
        other = list(HIGH)
        first = fields_between(one, other)
        kept = list(first)
        first.clear()
        self.assertEqual((one, other), (LOW, HIGH))
        self.assertEqual(fields_between(one, other), kept)
        self.assertEqual(between(one, other), 6)
        self.assertEqual((one, other), (LOW, HIGH))
        same = [("e", 1)]
        self.assertEqual(fields_between(same, same), [])
        self.assertEqual(same, [("e", 1)])


if __name__ == "__main__":
    unittest.main()
