import itertools
import unittest

from helper import MOST, chance_walks, runs, small_walks, soon, word
from oxhide.errors import BadNumber
from oxhide.runs import about, mirrored, parted, steps, tidied, times, turned

CONTRARY = {"e": "w", "w": "e", "n": "s", "s": "n"}
LEFT = {"e": "n", "n": "w", "w": "s", "s": "e"}
MIRROR = {"e": "w", "w": "e", "n": "n", "s": "s"}


def walks():
    return itertools.chain(small_walks(), chance_walks(200, runs_most=20, steps_most=4))


class RunsCase(unittest.TestCase):
    def assertWalk(self, told, wanted):
        """Lists of tuples, both in kind and in worth."""
        self.assertIs(type(told), list)
        for run in told:
            self.assertIs(type(run), tuple)
        self.assertEqual(told, wanted)


class TidiedTest(RunsCase):
    def test_the_empty_walk(self):
        self.assertWalk(tidied([]), [])

    def test_neighbouring_runs_of_one_way_are_put_together(self):
        self.assertWalk(tidied([("e", 1), ("e", 2), ("n", 3), ("n", 4), ("n", 5)]), [("e", 3), ("n", 12)])

    def test_contrary_steps_stay(self):
        walk = [("e", 2), ("w", 2), ("n", 1), ("s", 1), ("n", 1)]
        self.assertWalk(tidied(walk), walk)

    def test_against_the_steps(self):
        for walk in walks():
            self.assertWalk(tidied(walk), runs(word(walk)))

    def test_runs_longer_than_those_handed_in(self):
        with soon():
            self.assertWalk(tidied([("s", MOST)] * 200), [("s", 200 * MOST)])


class AboutTest(RunsCase):
    def test_an_ordinary_walk(self):
        self.assertWalk(about([("e", 1), ("n", 2), ("w", 3), ("s", 4)]), [("n", 4), ("e", 3), ("s", 2), ("w", 1)])
        self.assertWalk(about([]), [])

    def test_against_the_steps(self):
        for walk in walks():
            self.assertWalk(about(walk), runs([CONTRARY[way] for way in reversed(word(walk))]))

    def test_told_tidied_with_long_runs(self):
        with soon():
            self.assertWalk(about([("e", MOST), ("e", 1), ("n", 1)]), [("s", 1), ("w", MOST + 1)])


class TurnedTest(RunsCase):
    def test_an_ordinary_walk(self):
        self.assertWalk(turned([("e", 1), ("n", 2), ("w", 3), ("s", 4)]), [("n", 1), ("w", 2), ("s", 3), ("e", 4)])
        self.assertWalk(turned([]), [])

    def test_against_the_steps(self):
        for walk in walks():
            self.assertWalk(turned(walk), runs([LEFT[way] for way in word(walk)]))

    def test_told_tidied_with_long_runs(self):
        with soon():
            self.assertWalk(turned([("e", MOST), ("e", MOST), ("n", 1)]), [("n", 2 * MOST), ("w", 1)])


class MirroredTest(RunsCase):
    def test_an_ordinary_walk(self):
        self.assertWalk(mirrored([("e", 1), ("n", 2), ("w", 3), ("s", 4)]), [("w", 1), ("n", 2), ("e", 3), ("s", 4)])
        self.assertWalk(mirrored([]), [])

    def test_against_the_steps(self):
        for walk in walks():
            self.assertWalk(mirrored(walk), runs([MIRROR[way] for way in word(walk)]))

    def test_told_tidied_with_long_runs(self):
        with soon():
            self.assertWalk(mirrored([("w", MOST), ("w", MOST), ("s", 1)]), [("e", 2 * MOST), ("s", 1)])


class TimesTest(RunsCase):
    def test_none_and_once(self):
        walk = [("e", 1), ("e", 1), ("n", 2)]
        self.assertWalk(times(walk, 0), [])
        self.assertWalk(times(walk, 1), [("e", 2), ("n", 2)])
        self.assertWalk(times([], 5), [])

    def test_put_together_at_the_seam(self):
        self.assertWalk(times([("e", 2), ("n", 1), ("e", 3)], 3), [
            ("e", 2), ("n", 1), ("e", 5), ("n", 1), ("e", 5), ("n", 1), ("e", 3)])
        self.assertWalk(times([("w", 3)], 1000), [("w", 3000)])

    def test_against_the_steps(self):
        for walk in chance_walks(100, runs_most=6, steps_most=3):
            for many in (0, 1, 2, 3, 7):
                self.assertWalk(times(walk, many), runs(word(walk) * many))

    def test_more_and_longer_runs_than_those_handed_in(self):
        with soon():
            self.assertWalk(times([("n", MOST)], 1000), [("n", 1000 * MOST)])
            walk = [("e", MOST), ("n", MOST)] * 100
            self.assertWalk(times(walk, 1000), walk * 1000)

    def test_the_numbers_that_are_refused(self):
        for many in (-1, -1000, 1001, 10 ** 50, -10 ** 50):
            for walk in ([], [("e", 1)]):
                with self.subTest(many=many), self.assertRaises(BadNumber):
                    times(walk, many)


class StepsTest(RunsCase):
    def test_how_many(self):
        self.assertEqual(steps([]), 0)
        self.assertEqual(steps([("e", 3), ("w", 3), ("n", 1), ("n", 1)]), 8)
        for walk in walks():
            self.assertEqual(steps(walk), len(word(walk)))

    def test_long_runs(self):
        with soon():
            self.assertEqual(steps([("e", MOST), ("w", MOST)] * 100), 200 * MOST)


class PartedTest(RunsCase):
    def assertParted(self, told, ahead, behind):
        self.assertIs(type(told), tuple)
        self.assertEqual(len(told), 2)
        self.assertWalk(told[0], ahead)
        self.assertWalk(told[1], behind)

    def test_none_and_all(self):
        walk = [("e", 1), ("e", 2), ("n", 4)]
        self.assertParted(parted(walk, 0), [], [("e", 3), ("n", 4)])
        self.assertParted(parted(walk, 7), [("e", 3), ("n", 4)], [])
        self.assertParted(parted([], 0), [], [])

    def test_in_the_midst_and_at_the_end_of_a_run(self):
        walk = [("e", 3), ("n", 4), ("w", 2)]
        self.assertParted(parted(walk, 2), [("e", 2)], [("e", 1), ("n", 4), ("w", 2)])
        self.assertParted(parted(walk, 3), [("e", 3)], [("n", 4), ("w", 2)])
        self.assertParted(parted(walk, 4), [("e", 3), ("n", 1)], [("n", 3), ("w", 2)])
        self.assertParted(parted(walk, 7), [("e", 3), ("n", 4)], [("w", 2)])

    def test_where_the_cut_lies_between_runs_of_one_way(self):
        walk = [("e", 1), ("e", 1), ("e", 1), ("e", 1)]
        self.assertParted(parted(walk, 2), [("e", 2)], [("e", 2)])

    def test_against_the_steps(self):
        for walk in itertools.chain(small_walks(), chance_walks(40, runs_most=10, steps_most=4)):
            letters = word(walk)
            for many in range(len(letters) + 1):
                self.assertParted(parted(walk, many), runs(letters[:many]), runs(letters[many:]))

    def test_long_runs(self):
        with soon():
            walk = [("e", MOST), ("e", MOST), ("s", MOST)]
            self.assertParted(parted(walk, MOST + 1), [("e", MOST + 1)], [("e", MOST - 1), ("s", MOST)])
            self.assertParted(parted(walk, 3 * MOST - 1), [("e", 2 * MOST), ("s", MOST - 1)], [("s", 1)])

    def test_the_numbers_that_are_refused(self):
        for walk, many in (
            ([], 1), ([], -1), ([("e", 3), ("n", 4)], 8), ([("e", 3), ("n", 4)], -1),
            ([("e", MOST)], MOST + 1), ([("e", 1)], 10 ** 50), ([("e", 1)], -10 ** 50),
        ):
            with self.subTest(walk=walk, many=many), self.assertRaises(BadNumber):
                parted(walk, many)


class KeptApartTest(RunsCase):
    """Point 2: what is handed in stays, and what is told is new each time."""

    ASKED = {
        "tidied": tidied,
        "about": about,
        "turned": turned,
        "mirrored": mirrored,
        "times 0": lambda walk: times(walk, 0),
        "times 1": lambda walk: times(walk, 1),
        "times 3": lambda walk: times(walk, 3),
        "parted 0, ahead": lambda walk: parted(walk, 0)[0],
        "parted 0, behind": lambda walk: parted(walk, 0)[1],
        "parted 2, ahead": lambda walk: parted(walk, 2)[0],
        "parted 2, behind": lambda walk: parted(walk, 2)[1],
        "parted 5, behind": lambda walk: parted(walk, 5)[1],
    }
    WALKS = ([("e", 2), ("n", 3)], [("e", 1), ("e", 1), ("n", 3)], [("w", 5)])

    def test_the_walk_handed_in_stays_as_it_was(self):
        for name, call in self.ASKED.items():
            for walk in self.WALKS:
                handed = list(walk)
                with self.subTest(name, walk=walk):
                    call(handed)
                    steps(handed)
                    self.assertEqual(handed, walk)

    def test_a_told_list_that_is_changed_changes_nothing(self):
        for name, call in self.ASKED.items():
            for walk in self.WALKS:
                handed = list(walk)
                with self.subTest(name, walk=walk):
                    told = call(handed)
                    first = list(told)
                    told.append(("s", 9))
                    told[0] = ("x", 0)
                    self.assertEqual(handed, walk)
                    self.assertEqual(call(handed), first)

    def test_a_list_that_is_changed_behind_the_call_changes_nothing_told(self):
        for name, call in self.ASKED.items():
            for walk in self.WALKS:
                handed = list(walk)
                with self.subTest(name, walk=walk):
                    told = call(handed)
                    first = list(told)
                    handed.clear()
                    self.assertEqual(told, first)
                    self.assertEqual(call(list(walk)), first)

    def test_the_two_parts_are_lists_of_their_own(self):
        ahead, behind = parted([], 0)
        ahead.append(("e", 1))
        self.assertEqual(behind, [])
        self.assertEqual(parted([], 0), ([], []))


if __name__ == "__main__":
    unittest.main()
