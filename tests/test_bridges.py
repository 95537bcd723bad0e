"""Point 9: moves from one word to another one of the same place and land."""

import itertools
import random
import unittest

from helper import by_goal, chance_words, soon, words
from oxhide.errors import BadWord, TooLong, Unlike
from oxhide.moves import bridge, moved


def shuffled(letters, many, seed=1):
    """Words by chance of just these letters."""
    source = random.Random(seed)
    return ["".join(source.sample(letters, len(letters))) for _ in range(many)]


def neighbours(groups):
    """Of each group some pairs, each of its words among them."""
    for group in groups.values():
        alike = sorted(set(group))
        yield from zip(alike, alike[1:] + alike[:1])


class BridgeCase(unittest.TestCase):
    def assertBridge(self, one, other):
        for here, there in ((one, other), (other, one)):
            moves = bridge(here, there)
            self.assertIs(type(moves), list)
            self.assertTrue(all(type(move) is tuple for move in moves))
            self.assertLessEqual(len(moves), 1000)
            self.assertEqual(moved(here, moves), there)


class BridgeTest(BridgeCase):
    def test_by_hand(self):
        for one, other in (
            ("", ""), ("", "ew"), ("", "ns"), ("", "ewwesn"), ("e", "nse"), ("ew", "sn"), ("enne", "neen"),
            ("enws", "nwse"), ("enws", "wsen"), ("eenn", "eenn"), ("ee", "ensesn"),
        ):
            self.assertBridge(one, other)

    def test_all_pairs_of_words_of_at_most_four_letters(self):
        letters = [word for length in range(5) for word in words(length)]
        for group in by_goal(letters).values():
            for one, other in itertools.combinations_with_replacement(group, 2):
                self.assertBridge(one, other)

    def test_words_of_unlike_lengths(self):
        letters = [word for length in range(17) for word in chance_words(150, length, seed=length)]
        for one, other in neighbours(by_goal(letters)):
            self.assertBridge(one, other)

    def test_words_of_16_letters(self):
        for one, other in neighbours(by_goal(chance_words(3000, 16))):
            self.assertBridge(one, other)

    def test_words_of_16_letters_and_the_empty_word(self):
        letters = []
        for sides in range(9):
            letters += shuffled("ew" * sides + "ns" * (8 - sides), 150)
        home = sorted(set(by_goal(letters)[(0, 0, 0)]))
        self.assertGreater(len(home), 40)
        for word in home + ["ew" * 8, "ns" * 8, "e" * 8 + "w" * 8, "n" * 4 + "s" * 8 + "n" * 4]:
            self.assertEqual(len(word), 16)
            self.assertBridge("", word)

    def test_words_with_as_much_to_turn_as_can_be(self):
        for one, other in (("e", "n"), ("n", "e"), ("w", "n"), ("s", "e"), ("w", "s"), ("s", "w")):
            # The other's steps all at the end but two, which the one's have passed in two ways.
            first = one * 7 + other * 2 + one + other * 6
            second = one * 6 + other + one * 2 + other * 7
            self.assertBridge(first, second)
            self.assertBridge(first[::-1], second[::-1])
            self.assertBridge(one * 8 + other * 8, one * 8 + other * 8)

    def test_hedges_of_16_letters(self):
        square = "eeeennnnwwwwssss"
        for at in range(16):
            self.assertBridge(square, square[at:] + square[:at])
            self.assertBridge(square[::-1], (square[at:] + square[:at])[::-1])
        for letters in ("eew" + "nns" * 2, "eeewww" + "nnnss", "enws" * 4, "ewew" + "n" * 6 + "s" * 6):
            for one, other in neighbours(by_goal(shuffled(letters, 120))):
                self.assertBridge(one, other)

    def test_told_soon(self):
        with soon():
            for one, other in neighbours(by_goal(chance_words(200, 16, seed=9))):
                bridge(one, other)


class RefusedTest(BridgeCase):
    def test_unlike(self):
        for one, other in (
            ("", "e"), ("e", ""), ("e", "w"), ("n", "s"), ("en", "ne"), ("", "enws"), ("enws", "swne"),
            ("enws", "nesw"), ("e" * 16, "w" * 16), ("e" * 16, ""), ("eenn", "neen"),
        ):
            with self.subTest(one=one, other=other), self.assertRaises(Unlike):
                bridge(one, other)

    def test_unlike_just_where_place_or_land_are(self):
        groups = by_goal([word for length in range(4) for word in words(length)])
        first = [group[0] for group in groups.values()]
        for one, other in itertools.permutations(first, 2):
            with self.assertRaises(Unlike):
                bridge(one, other)

    def test_more_than_16_letters_are_too_long(self):
        for length in (17, 18, 59, 60):
            for one, other in (("e" * length, ""), ("", "e" * length), ("e" * length, "e" * length)):
                with self.subTest(one=one, other=other), self.assertRaises(TooLong):
                    bridge(one, other)
        with self.assertRaises(TooLong):
            bridge("ew" * 9, "")
        with self.assertRaises(TooLong):
            bridge("", "ew" * 9)
        self.assertBridge("ew" * 8, "")

    def refused_at(self, one, other):
        with self.assertRaises(BadWord) as caught:
            bridge(one, other)
        return caught.exception.at

    def test_the_first_word_is_looked_at_ahead_of_the_second(self):
        self.assertEqual(self.refused_at("enx", "x"), 2)
        self.assertEqual(self.refused_at("enx", "e" * 61), 2)
        with self.assertRaises(TooLong):
            bridge("e" * 61, "x")

    def test_both_words_are_looked_at_ahead_of_all_else(self):
        self.assertEqual(self.refused_at("e" * 17, "eenx"), 3)
        self.assertEqual(self.refused_at("e" * 60, "x"), 0)
        self.assertEqual(self.refused_at("e" * 20 + "x", ""), 20)
        self.assertEqual(self.refused_at("", "e" * 20 + "x"), 20)
        self.assertEqual(self.refused_at("e", "nnx"), 2)


class KeptApartTest(BridgeCase):
    PAIRS = (("", ""), ("", "ew"), ("enne", "neen"), ("enws" * 4, "nwse" * 4), ("e", "e"))

    def test_asked_again_the_same_whatever_became_of_the_told_list(self):
        for one, other in self.PAIRS:
            told = bridge(one, other)
            first = list(told)
            told.append(("cut", -1))
            told[0] = ("none", 0)
            self.assertEqual(bridge(one, other), first)
            told.clear()
            self.assertEqual(bridge(one, other), first)
            self.assertBridge(one, other)


if __name__ == "__main__":
    unittest.main()
