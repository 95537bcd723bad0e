"""Point 8: words and walks, and what each function that takes a word refuses of it."""

import unittest

from helper import MOST, chance_words, runs, soon, word, words
from oxhide.errors import BadRun, BadWord, TooLong
from oxhide.moves import bridge, moved
from oxhide.straight import straight_number
from oxhide.ways import number_of
from oxhide.words import look_word, walk_word, word_walk

# Signs that are none of the four letters.
NO_LETTERS = ["E", "N", "W", "S", "x", "0", " ", "\n", "~", "!", "-", "a", "z"]

# Each with what else it could refuse, which must not go first.
TAKERS = {
    "look_word": look_word,
    "word_walk": word_walk,
    "moved": lambda letters: moved(letters, []),
    "moved badly": lambda letters: moved(letters, [("cut", -1)]),
    "bridge, first": lambda letters: bridge(letters, ""),
    "bridge, second": lambda letters: bridge("", letters),
    "bridge, second behind a long one": lambda letters: bridge("e" * 60, letters),
    "bridge, both": lambda letters: bridge(letters, letters),
    "number_of": number_of,
    "straight_number": straight_number,
}


class WordRefusalsTest(unittest.TestCase):
    def refused_at(self, call, letters):
        with self.assertRaises(BadWord) as caught:
            call(letters)
        return caught.exception.at

    def test_words_are_looked_at_and_nothing_is_told(self):
        for letters in ("", "e", "n", "w", "s", "enws", "e" * 59, "enws" * 15):
            self.assertIsNone(look_word(letters))

    def test_words_of_59_to_61_letters(self):
        for call in (look_word, word_walk, lambda letters: moved(letters, [])):
            call(("enws" * 20)[:59])
            call(("enws" * 20)[:60])
            with self.assertRaises(TooLong):
                call(("enws" * 20)[:61])

    def test_more_than_60_letters_are_too_long(self):
        for name, call in TAKERS.items():
            for many in (61, 62, 100, 40000):
                with self.subTest(name, many=many), self.assertRaises(TooLong):
                    call("e" * many)

    def test_too_long_goes_ahead_of_bad_word(self):
        for name, call in TAKERS.items():
            for letters in ("x" + "e" * 60, "e" * 60 + "x", "x" * 61):
                with self.subTest(name, letters=letters), self.assertRaises(TooLong):
                    call(letters)

    def test_each_sign_that_is_no_letter_is_refused(self):
        for name, call in TAKERS.items():
            for sign in NO_LETTERS:
                for at in (0, 1, 7, 16, 59):
                    with self.subTest(name, sign=sign, at=at):
                        self.assertEqual(self.refused_at(call, "e" * at + sign + "n" * (59 - at)), at)
                with self.subTest(name, sign=sign):
                    self.assertEqual(self.refused_at(call, sign), 0)

    def test_the_first_such_sign_is_named(self):
        for name, call in TAKERS.items():
            with self.subTest(name):
                self.assertEqual(self.refused_at(call, "enxx"), 2)
                self.assertEqual(self.refused_at(call, "ennwE s"), 4)


class WordWalkTest(unittest.TestCase):
    def test_by_hand(self):
        self.assertEqual(word_walk(""), [])
        self.assertEqual(word_walk("eennnw"), [("e", 2), ("n", 3), ("w", 1)])
        self.assertEqual(word_walk("ewewns"), [("e", 1), ("w", 1), ("e", 1), ("w", 1), ("n", 1), ("s", 1)])
        self.assertEqual(word_walk("s" * 60), [("s", 60)])
        self.assertEqual(word_walk("ns" * 30), [("n", 1), ("s", 1)] * 30)

    def test_against_the_letters(self):
        for length in range(6):
            for letters in words(length):
                told = word_walk(letters)
                self.assertIs(type(told), list)
                self.assertTrue(all(type(run) is tuple for run in told))
                self.assertEqual(told, runs(letters))

    def test_told_lists_are_new_ones(self):
        for letters in ("", "e", "eenn"):
            told = word_walk(letters)
            first = list(told)
            told.append(("w", 9))
            told[0] = ("x", 0)
            self.assertEqual(word_walk(letters), first)


class WalkWordTest(unittest.TestCase):
    def test_by_hand(self):
        self.assertEqual(walk_word([]), "")
        self.assertEqual(walk_word([("e", 2), ("n", 3), ("w", 1)]), "eennnw")

    def test_walks_that_are_not_tidied(self):
        self.assertEqual(walk_word([("e", 1), ("e", 2), ("w", 1), ("w", 1)]), "eeeww")

    def test_there_and_back(self):
        for length in (0, 1, 2, 3, 4, 59, 60):
            for letters in chance_words(40, length):
                walk = word_walk(letters)
                self.assertEqual(word(walk), letters)
                self.assertEqual(walk_word(walk), letters)

    def test_walks_of_59_to_61_steps(self):
        for rest in ([("n", 1)], [("n", 9)], [("n", 1)] * 30):
            more = 60 - sum(many for way, many in rest)
            for steps in (more - 1, more):
                self.assertEqual(walk_word([("e", steps)] + rest), "e" * steps + word(rest))
            with self.assertRaises(TooLong):
                walk_word([("e", more + 1)] + rest)
        self.assertEqual(walk_word([("w", 60)]), "w" * 60)
        with self.assertRaises(TooLong):
            walk_word([("w", 61)])

    def test_long_runs_are_refused_soon(self):
        with soon():
            for walk in ([("e", MOST)], [("e", MOST), ("w", MOST)] * 100, [("n", 1), ("s", 10 ** 12)]):
                with self.assertRaises(TooLong):
                    walk_word(walk)

    def test_the_refusals_of_the_walk_go_ahead(self):
        for walk, at in (
            ([("e", 61), ("x", 1)], 1), ([("e", MOST), ("n", 1), ("n", 0)], 2), ([("e", 61), ("", 1)], 1),
            ([("e", MOST + 1)], 0), ([("e", 60), ("n", -60)], 1),
        ):
            with self.subTest(walk=walk), self.assertRaises(BadRun) as caught:
                walk_word(walk)
            self.assertEqual(caught.exception.at, at)

    def test_the_walk_handed_in_stays_as_it_was(self):
        walk = [("e", 1), ("e", 2), ("s", 1)]
        self.assertEqual(walk_word(walk), "eees")
        self.assertEqual(walk, [("e", 1), ("e", 2), ("s", 1)])
        self.assertEqual(walk_word(walk), "eees")


if __name__ == "__main__":
    unittest.main()
