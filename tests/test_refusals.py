"""What point 3 refuses, at every function that takes a walk."""

import unittest

from helper import MOST, NO_STEPS, NO_WAYS
from oxhide.errors import BadNumber, BadRun, NotHome, NotMet, TooLong
from oxhide.hedges import fields, inner, is_plain, rounds
from oxhide.pages import walk_text
from oxhide.roads import between, fields_between
from oxhide.runs import about, look_walk, mirrored, parted, steps, tidied, times, turned
from oxhide.tallies import parts, tally
from oxhide.words import walk_word

GOOD = ("e", 1)
BAD = ("x", 1)

# Each with what else it could refuse, which must not go first.
TAKERS = {
    "look_walk": look_walk,
    "tidied": tidied,
    "about": about,
    "turned": turned,
    "mirrored": mirrored,
    "times 2": lambda walk: times(walk, 2),
    "times 0": lambda walk: times(walk, 0),
    "times -1": lambda walk: times(walk, -1),
    "times 1001": lambda walk: times(walk, 1001),
    "steps": steps,
    "parted 0": lambda walk: parted(walk, 0),
    "parted -1": lambda walk: parted(walk, -1),
    "parted much": lambda walk: parted(walk, 10 ** 50),
    "tally": tally,
    "parts, first": lambda walk: parts(walk, []),
    "parts, second": lambda walk: parts([], walk),
    "parts, both": lambda walk: parts(walk, walk),
    "walk_word": walk_word,
    "walk_text": walk_text,
    "rounds": lambda walk: rounds(walk, 0, 0),
    "fields": fields,
    "is_plain": is_plain,
    "inner": inner,
    "between, first": lambda walk: between(walk, []),
    "between, second": lambda walk: between([], walk),
    "between, both": lambda walk: between(walk, walk),
    "fields_between, first": lambda walk: fields_between(walk, []),
    "fields_between, second": lambda walk: fields_between([], walk),
    "fields_between, both": lambda walk: fields_between(walk, walk),
}

# Those that take two walks.
PAIR_TAKERS = {"parts": parts, "between": between, "fields_between": fields_between}


class RefusalsTest(unittest.TestCase):
    def refused_at(self, call, *handed):
        with self.assertRaises(BadRun) as caught:
            call(*handed)
        return caught.exception.at

    def test_walks_are_looked_at_and_nothing_is_told(self):
        for walk in ([], [GOOD], [("e", MOST), ("n", 1), ("w", MOST), ("s", 2)], [GOOD] * 200):
            self.assertIsNone(look_walk(walk))

    def test_a_good_walk_is_refused_nowhere(self):
        walk = [("e", MOST), ("n", 1), ("w", 1), ("s", MOST)] * 50
        for name, call in TAKERS.items():
            with self.subTest(name):
                try:
                    call(walk)
                except (BadNumber, NotHome, NotMet):
                    pass
                except TooLong:
                    # A good walk, but one of more steps than a word has letters, or two roads are bound to.
                    self.assertIn(name, ("walk_word", "fields_between, both"))

    def test_more_than_200_runs_are_too_long(self):
        for name, call in TAKERS.items():
            for many in (201, 202, 1000):
                with self.subTest(name, many=many), self.assertRaises(TooLong):
                    call([GOOD] * many)

    def test_too_long_goes_ahead_of_bad_run(self):
        for name, call in TAKERS.items():
            with self.subTest(name), self.assertRaises(TooLong):
                call([BAD] + [GOOD] * 200)

    def test_each_way_that_is_none_is_refused(self):
        for name, call in TAKERS.items():
            for way in NO_WAYS:
                with self.subTest(name, way=way):
                    self.assertEqual(self.refused_at(call, [(way, 3)]), 0)

    def test_each_number_of_steps_that_is_none_is_refused(self):
        for name, call in TAKERS.items():
            for many in NO_STEPS:
                for way in "enws":
                    with self.subTest(name, way=way, many=many):
                        self.assertEqual(self.refused_at(call, [GOOD, (way, many)]), 1)

    def test_the_bounds_of_a_run_belong_to_it(self):
        for way in "enws":
            self.assertIsNone(look_walk([(way, 1)]))
            self.assertIsNone(look_walk([(way, MOST)]))

    def test_the_first_bad_run_is_named(self):
        for name, call in TAKERS.items():
            for at in (0, 1, 57, 199):
                walk = [GOOD] * at + [BAD] + [("n", 0)] * (199 - at)
                with self.subTest(name, at=at):
                    self.assertEqual(self.refused_at(call, walk), at)
                    walk[at] = ("n", 0)
                    self.assertEqual(self.refused_at(call, walk), at)

    def test_of_two_walks_the_first_one_goes_whole_ahead(self):
        for name, call in PAIR_TAKERS.items():
            with self.subTest(name):
                self.assertEqual(self.refused_at(call, [GOOD, GOOD, BAD], [BAD]), 2)
                self.assertEqual(self.refused_at(call, [GOOD, BAD], [GOOD] * 201), 1)
                with self.assertRaises(TooLong):
                    call([GOOD] * 201, [BAD])
                self.assertEqual(self.refused_at(call, [("n", 5)], [GOOD, BAD]), 1)
                self.assertEqual(self.refused_at(call, [("n", 500)], [GOOD, BAD]), 1)
                with self.assertRaises(TooLong):
                    call([("n", 5)], [BAD] * 201)

    def test_what_is_refused_changes_nothing(self):
        for name, call in TAKERS.items():
            walk = [GOOD, GOOD, ("e", 0)]
            with self.subTest(name), self.assertRaises(BadRun):
                call(walk)
            self.assertEqual(walk, [GOOD, GOOD, ("e", 0)])


if __name__ == "__main__":
    unittest.main()
