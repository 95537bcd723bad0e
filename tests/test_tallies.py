import itertools
import unittest

from helper import MOST, chance_tallies, chance_walks, gone, small_walks, soon
from oxhide.runs import about, mirrored, times, turned
from oxhide.tallies import flipped, joined, often, parts, quarter, tally, undone

NOUGHT = (0, 0, 0, 0, 0)
UNITS = [tuple(1 if at == place else 0 for at in range(5)) for place in range(5)]


def walks():
    return itertools.chain(small_walks(), chance_walks(300))


def tallies():
    """Small and great ones, also such as no walk has."""
    return itertools.chain(
        [NOUGHT], UNITS, chance_tallies(60, 1), chance_tallies(30, 60), chance_tallies(3, 2000))


def summed(one, many):
    """So many times a tally, by the sums of 1, k and k * k over the k below many."""
    x, y, land, lean, lift = one
    first = many * (many - 1) // 2
    second = many * (many - 1) * (2 * many - 1) // 6
    return (
        many * x,
        many * y,
        many * land + first * x * y,
        many * lean + 2 * first * x * land + second * x * x * y,
        many * lift + 2 * first * y * land + first * x * y * y + 2 * second * x * y * y,
    )


class TalliesCase(unittest.TestCase):
    def assertTally(self, told, wanted):
        self.assertIs(type(told), tuple)
        self.assertEqual(len(told), 5)
        self.assertEqual(told, wanted)


class TallyTest(TalliesCase):
    def test_by_hand(self):
        self.assertTally(tally([]), NOUGHT)
        self.assertTally(tally([("e", 3)]), (3, 0, 0, 0, 0))
        self.assertTally(tally([("e", 3), ("n", 2)]), (3, 2, 6, 18, 12))
        self.assertTally(tally([("w", 3), ("s", 2)]), (-3, -2, 6, -18, -12))
        self.assertTally(tally([("e", 3), ("n", 2), ("w", 3), ("s", 2)]), (0, 0, 6, 18, 12))
        self.assertTally(tally([("n", 2), ("e", 3), ("s", 2), ("w", 3)]), (0, 0, -6, -18, -12))

    def test_against_the_walk_gone_step_by_step(self):
        for walk in walks():
            self.assertTally(tally(walk), gone(walk))

    def test_long_runs(self):
        long = MOST // 9
        with soon():
            for walk in chance_walks(100, runs_most=30, seed=2):
                x, y, land, lean, lift = gone(walk)
                self.assertTally(
                    tally([(way, many * long) for way, many in walk]),
                    (x * long, y * long, land * long ** 2, lean * long ** 3, lift * long ** 3))

    def test_the_longest_walk(self):
        with soon():
            walk = [("e", MOST), ("n", MOST)] * 100
            self.assertTally(tally(walk), summed((MOST, MOST, MOST ** 2, MOST ** 3, MOST ** 3), 100))

    def test_the_walk_stays_and_the_same_is_told_again(self):
        walk = [("e", 3), ("e", 1), ("n", 2)]
        first = tally(walk)
        self.assertEqual(walk, [("e", 3), ("e", 1), ("n", 2)])
        self.assertTally(tally(walk), first)


class JoinedTest(TalliesCase):
    def test_as_written(self):
        self.assertTally(joined((2, 3, 5, 7, 11), (13, 17, 19, 23, 29)), (
            15, 20, 5 + 19 + 34, 7 + 23 + 76 + 68, 11 + 29 + 114 + 2 * (289 + 102)))
        self.assertTally(joined((-2, -3, 5, 7, 11), (13, -17, 19, -23, 29)), (
            11, -20, 5 + 19 + 34, 7 - 23 - 76 - 68, 11 + 29 - 114 - 2 * (289 + 102)))

    def test_one_walk_behind_another(self):
        some = list(chance_walks(60, seed=3))
        for one, other in itertools.product(some, some):
            self.assertTally(joined(tally(one), tally(other)), gone(one + other))

    def test_nought_changes_nothing(self):
        for one in tallies():
            self.assertTally(joined(one, NOUGHT), one)
            self.assertTally(joined(NOUGHT, one), one)

    def test_it_matters_not_which_two_are_put_together_first(self):
        some = list(chance_tallies(8, 60, seed=4)) + UNITS
        for one, other, third in itertools.product(some, repeat=3):
            self.assertTally(joined(joined(one, other), third), joined(one, joined(other, third)))


class UndoneTest(TalliesCase):
    def test_behind_and_ahead_it_makes_nought(self):
        for one in tallies():
            self.assertTally(joined(one, undone(one)), NOUGHT)
            self.assertTally(joined(undone(one), one), NOUGHT)

    def test_by_hand(self):
        self.assertTally(undone((2, 3, 5, 7, 11)), (-2, -3, 1, 20 - 12 - 7, 30 - 18 - 11))

    def test_of_walks(self):
        for walk in walks():
            self.assertTally(undone(tally(walk)), tally(about(walk)))


class QuarterTest(TalliesCase):
    def test_as_written(self):
        self.assertTally(quarter((2, 3, 5, 7, 11)), (-3, 2, -1, 7, -5))
        self.assertTally(quarter((0, 0, 5, 7, 11)), (0, 0, 5, -11, 7))

    def test_of_walks(self):
        for walk in walks():
            self.assertTally(quarter(tally(walk)), gone(turned(walk)))

    def test_four_quarters_are_none(self):
        for one in tallies():
            self.assertTally(quarter(quarter(quarter(quarter(one)))), one)


class FlippedTest(TalliesCase):
    def test_as_written(self):
        self.assertTally(flipped((2, 3, 5, 7, 11)), (-2, 3, -5, 7, -11))

    def test_of_walks(self):
        for walk in walks():
            self.assertTally(flipped(tally(walk)), gone(mirrored(walk)))

    def test_twice_is_none(self):
        for one in tallies():
            self.assertTally(flipped(flipped(one)), one)


class OftenTest(TalliesCase):
    def test_none_once_and_once_about(self):
        for one in tallies():
            self.assertTally(often(one, 0), NOUGHT)
            self.assertTally(often(one, 1), one)
            self.assertTally(often(one, -1), undone(one))

    def test_put_together_one_by_one(self):
        for one in itertools.chain(UNITS, chance_tallies(20, 3), chance_tallies(5, 60)):
            forth = back = NOUGHT
            for many in range(1, 40):
                forth = joined(forth, one)
                back = joined(back, undone(one))
                self.assertTally(often(one, many), forth)
                self.assertTally(often(one, -many), back)

    def test_of_walks(self):
        for walk in chance_walks(100, runs_most=5, steps_most=4):
            for many in (0, 1, 2, 5, 9):
                self.assertTally(often(tally(walk), many), gone(times(walk, many)))

    def test_great_numbers(self):
        with soon():
            for one in tallies():
                for many in (10 ** 6, 10 ** 60 - 1, 2 ** 190, 2 ** 190 - 1):
                    self.assertTally(often(one, many), summed(one, many))
                    self.assertTally(often(one, -many), summed(undone(one), many))


class PartsTest(unittest.TestCase):
    def test_each_word(self):
        corner = [("e", 1), ("n", 1)]
        self.assertEqual(parts([("e", 1)], []), "east")
        self.assertEqual(parts([("n", 1)], []), "north")
        self.assertEqual(parts(corner, [("n", 1), ("e", 1)]), "land")
        # Two fields side by side, or one above the other, against one field twice round.
        self.assertEqual(parts([("e", 2), ("n", 1), ("w", 2), ("s", 1)],
                               [("e", 1), ("n", 1), ("w", 1), ("s", 1)] * 2), "lean")
        self.assertEqual(parts([("e", 1), ("n", 2), ("w", 1), ("s", 2)],
                               [("e", 1), ("n", 1), ("w", 1), ("s", 1)] * 2), "lift")

    def test_the_first_word_goes(self):
        self.assertEqual(parts([("e", 2), ("n", 3)], []), "east")
        self.assertEqual(parts([("e", 2), ("n", 3)], [("e", 2)]), "north")
        self.assertEqual(parts([("e", 2), ("n", 3)], [("n", 3), ("e", 2)]), "land")

    def test_walks_alike_in_all(self):
        self.assertIsNone(parts([], []))
        self.assertIsNone(parts([], [("e", 3), ("w", 3), ("s", 1), ("n", 1)]))
        self.assertIsNone(parts([("e", 1), ("e", 2)], [("e", 3)]))

    def test_against_the_walks_gone_step_by_step(self):
        words = ["east", "north", "land", "lean", "lift"]
        some = list(small_walks())[::5]
        for one, other in itertools.product(some[:60], some):
            unlike = [w for w, here, there in zip(words, gone(one), gone(other)) if here != there]
            self.assertEqual(parts(one, other), unlike[0] if unlike else None)

    def test_long_runs(self):
        with soon():
            one = [("e", MOST), ("n", MOST), ("w", MOST), ("s", MOST)]
            other = [("e", MOST), ("n", MOST), ("w", MOST), ("s", MOST - 1)]
            self.assertEqual(parts(one, other), "north")
            self.assertIsNone(parts(one * 50, one * 50))

    def test_the_walks_stay(self):
        one, other = [("e", 1), ("e", 1)], [("n", 2), ("n", 1)]
        parts(one, other)
        self.assertEqual((one, other), ([("e", 1), ("e", 1)], [("n", 2), ("n", 1)]))


if __name__ == "__main__":
    unittest.main()
