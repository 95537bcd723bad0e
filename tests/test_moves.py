"""Point 8: moves."""

import random
import unittest

from helper import chance_words, come_to, soon, words
from oxhide.errors import BadMove, BadWord, TooLong
from oxhide.moves import moved

CONTRARY = {"e": "w", "w": "e", "n": "s", "s": "n"}
GREAT = 10 ** 59


def put(word, at, way):
    if not 0 <= at <= len(word):
        return None
    return word[:at] + way + CONTRARY[way] + word[at:]


def cut(word, at):
    if not 0 <= at <= len(word) - 2 or CONTRARY[word[at]] != word[at + 1]:
        return None
    return word[:at] + word[at + 2:]


def swap(word, at, to):
    """By the land of the words, not by what single corners gain."""
    if at < 0 or to < at + 2 or to > len(word) - 2:
        return None
    signs = list(word)
    for place in (at, to):
        if (signs[place] in "ew") == (signs[place + 1] in "ew"):
            return None
        signs[place], signs[place + 1] = signs[place + 1], signs[place]
    told = "".join(signs)
    return told if come_to(told) == come_to(word) else None


DONE = {"put": put, "cut": cut, "swap": swap}


def each_move(length):
    """All moves at a word of so many letters, and such as lie just beside them."""
    places = range(-3, length + 4)
    for at in places:
        yield ("cut", at)
        for way in "enws":
            yield ("put", at, way)
        for to in places:
            yield ("swap", at, to)


class MovesCase(unittest.TestCase):
    def assertRefused(self, word, moves, at=0):
        with self.assertRaises(BadMove) as caught:
            moved(word, moves)
        self.assertEqual(caught.exception.at, at)

    def assertMove(self, word, move):
        """Against the reference above, and that the place and the land stay."""
        wanted = DONE[move[0]](word, *move[1:])
        if wanted is None:
            self.assertRefused(word, [move])
        else:
            told = moved(word, [move])
            self.assertEqual(told, wanted)
            self.assertEqual(come_to(told), come_to(word))


class DoneTest(MovesCase):
    def test_no_moves(self):
        for word in ("", "e", "enws" * 15):
            self.assertEqual(moved(word, []), word)

    def test_put_at_every_place(self):
        self.assertEqual(moved("", [("put", 0, "n")]), "ns")
        self.assertEqual(moved("en", [("put", 0, "w")]), "ween")
        self.assertEqual(moved("en", [("put", 1, "w")]), "ewen")
        self.assertEqual(moved("en", [("put", 2, "w")]), "enwe")
        for word in ("", "e", "enws", "n" * 17, "enws" * 15):
            for way in "enws":
                for at in range(len(word) + 1):
                    told = moved(word, [("put", at, way)])
                    self.assertEqual(told, word[:at] + way + CONTRARY[way] + word[at:])

    def test_cut(self):
        self.assertEqual(moved("ew", [("cut", 0)]), "")
        self.assertEqual(moved("nwes", [("cut", 1)]), "ns")
        self.assertEqual(moved("ewe", [("cut", 1)]), "e")
        for pair in ("ew", "we", "ns", "sn"):
            self.assertEqual(moved("nn" + pair + "ee", [("cut", 2)]), "nnee")

    def test_swap(self):
        self.assertEqual(moved("enne", [("swap", 0, 2)]), "neen")
        self.assertEqual(moved("neen", [("swap", 0, 2)]), "enne")
        self.assertEqual(moved("eneene", [("swap", 0, 4)]), "neeeen")
        self.assertEqual(moved("ensw", [("swap", 0, 2)]), "news")

    def test_each_move_at_each_small_word(self):
        for length in range(5):
            for word in words(length):
                for move in each_move(length):
                    self.assertMove(word, move)

    def test_each_move_at_longer_words(self):
        for length in (5, 6, 7, 12, 16):
            for word in chance_words(12, length):
                for move in each_move(length):
                    self.assertMove(word, move)

    def test_moves_are_done_in_order(self):
        self.assertEqual(moved("", [("put", 0, "e"), ("put", 1, "n"), ("swap", 0, 2), ("cut", 1)]), "ns")
        source = random.Random(4)
        for word in chance_words(30, 10):
            told = word
            moves = []
            for _ in range(60):
                move = source.choice(list(each_move(len(told))))
                behind = DONE[move[0]](told, *move[1:])
                if behind is not None:
                    moves.append(move)
                    told = behind
            self.assertEqual(moved(word, moves), told)
            self.assertEqual(come_to(told), come_to(word))


class RefusedTest(MovesCase):
    def test_places_of_put(self):
        for word in ("", "e", "enws"):
            for at in (-1, -2, len(word) + 1, len(word) + 2, GREAT, -GREAT):
                self.assertRefused(word, [("put", at, "e")])

    def test_ways_of_put(self):
        for way in ("", "E", "en", "ew", "enws", "x", " ", "east"):
            self.assertRefused("en", [("put", 1, way)])

    def test_places_of_cut(self):
        for at in (-1, -2, -3, -4, 1, 3, 4, 5, GREAT, -GREAT):
            self.assertRefused("ewns", [("cut", at)])
        for word in ("", "e"):
            for at in (-1, 0, 1):
                self.assertRefused(word, [("cut", at)])

    def test_cut_wants_contrary_steps(self):
        for one in "enws":
            for other in "enws":
                if CONTRARY[one] != other:
                    self.assertRefused(one + other, [("cut", 0)])

    def test_cut_does_not_go_round_the_end(self):
        self.assertRefused("enw", [("cut", 2)])
        self.assertRefused("enw", [("cut", -1)])

    def test_places_of_swap(self):
        for at, to in (
            (-4, 2), (-1, 2), (0, -2), (0, 3), (0, 4), (0, GREAT), (GREAT, 2), (-GREAT, 2), (0, -GREAT),
            (GREAT, GREAT + 2), (2, 0), (1, 2), (2, 2), (0, 0),
        ):
            self.assertRefused("enne", [("swap", at, to)])

    def test_corners_that_touch(self):
        # At 0 and 1 stand corners that gain contrary to one another, but they share a step.
        for word in ("ene", "nen", "wnw", "sws", "ese", "nwn"):
            self.assertRefused(word, [("swap", 0, 1)])
            self.assertRefused(word, [("swap", 1, 0)])
            self.assertRefused(word, [("swap", 0, 0)])

    def test_corners_that_gain_alike(self):
        for one, other in (
            ("en", "en"), ("en", "ws"), ("en", "nw"), ("en", "se"), ("ne", "ne"), ("ne", "sw"), ("ne", "wn"),
            ("ne", "es"), ("ws", "nw"), ("sw", "es"),
        ):
            for between in ("", "e", "nn", "wse"):
                self.assertRefused(one + between + other, [("swap", 0, 2 + len(between))])
                self.assertRefused(other + between + one, [("swap", 0, 2 + len(between))])

    def test_swap_wants_two_corners(self):
        for pair in ("ee", "ew", "we", "ww", "nn", "ns", "sn", "ss"):
            for corner in ("en", "ne"):
                self.assertRefused(pair + corner, [("swap", 0, 2)])
                self.assertRefused(corner + pair, [("swap", 0, 2)])
            self.assertRefused(pair + pair, [("swap", 0, 2)])

    def test_a_text_where_a_number_stands(self):
        for move in (
            ("put", "0", "e"), ("put", "", "e"), ("put", "e", "e"), ("cut", "0"), ("cut", "e"),
            ("swap", "0", 2), ("swap", 0, "2"), ("swap", "0", "2"), ("swap", "", ""),
        ):
            with self.subTest(move=move):
                self.assertRefused("ewne", [move])

    def test_a_number_where_a_text_stands(self):
        for move in (("put", 0, 0), ("put", 0, 1), ("put", 1, -1), ("put", 0, GREAT), ("put", "e", 0)):
            with self.subTest(move=move):
                self.assertRefused("ewne", [move])

    def test_things_left_out_or_put_in(self):
        for move in (
            ("put", 0), ("put", "e"), ("put", 0, "e", 0), ("put", 0, "e", "e"), ("put", 0, 0, "e"),
            ("cut", 0, 1), ("cut", 0, "e"), ("cut", 0, "e", "w"), ("cut", 0, 0, 0),
            ("swap", 0), ("swap", 0, 2, 0), ("swap", 0, 2, "e"), ("swap", "enne"),
        ):
            with self.subTest(move=move):
                self.assertRefused("ewenne", [move])

    def test_another_first_word(self):
        for first in ("", "Put", "PUT", "put ", " cut", "cuts", "exchange", "e", "0", "swap\n"):
            for things in ((0,), (0, "e"), (0, 2), (2, 4), (0, 2, 4)):
                with self.subTest(first=first, things=things):
                    self.assertRefused("ewenne", [(first,) + things])

    def test_true_and_false_are_no_numbers(self):
        for move in (("put", False, "e"), ("put", True, "e"), ("cut", False), ("swap", False, 2)):
            with self.subTest(move=move):
                self.assertRefused("ewnsen", [move])
        self.assertRefused("enne", [("swap", False, 2)])

    def test_the_number_of_the_first_such_move(self):
        good = [("put", 0, "e"), ("cut", 0)]
        for at in (0, 1, 2, 3, 10, 399, 998):
            moves = (good * 500)[:at] + [("put", -1, "e")] + [("cut", -1)] * (999 - at)
            self.assertRefused("nn", moves, at)

    def test_a_move_that_an_earlier_one_spoiled(self):
        self.assertRefused("ew", [("cut", 0), ("cut", 0)], 1)
        self.assertRefused("ew", [("put", 0, "n"), ("cut", 2), ("cut", 2)], 2)
        self.assertRefused("enne", [("swap", 0, 2), ("put", 4, "s"), ("swap", 0, 1)], 2)

    def test_a_word_of_more_than_400_letters_on_the_way(self):
        for word in ("", "e", "n" * 59, "s" * 60):
            room = (400 - len(word)) // 2
            puts = [("put", 0, "e")] * room
            self.assertEqual(moved(word, puts), "ew" * room + word)
            self.assertRefused(word, puts + [("put", 0, "e")], room)
            # It would be short enough again at the end.
            self.assertRefused(word, puts + [("put", 0, "e"), ("cut", 0)], room)
            self.assertRefused(word, puts + [("put", 401, "e"), ("cut", 0)], room)

    def test_at_400_letters_the_other_moves_are_done(self):
        puts = [("put", 0, "n")] * 170
        word = moved("enne" * 15, puts + [("swap", 340, 342)])
        self.assertEqual(word, "ns" * 170 + "neen" + "enne" * 14)
        word = moved("enne" * 15, puts + [("cut", 169), ("put", 398, "w")])
        self.assertEqual(word, "ns" * 169 + "enne" * 15 + "we")

    def test_the_refusals_of_the_word_go_ahead(self):
        with self.assertRaises(TooLong):
            moved("e" * 61, [("cut", -1)])
        with self.assertRaises(TooLong):
            moved("x" * 61, [("none", 0)])
        with self.assertRaises(BadWord) as caught:
            moved("eex", [("cut", -1)])
        self.assertEqual(caught.exception.at, 2)


class SoonTest(MovesCase):
    def test_a_thousand_moves(self):
        with soon():
            for word in ("", "enws" * 15):
                self.assertEqual(moved(word, [("put", 0, "e"), ("cut", 0)] * 500), word)
            puts = [("put", 0, "e")] * 170
            self.assertEqual(moved("enne" * 15, puts + [("swap", 340, 346)] * 830), "ew" * 170 + "enne" * 15)


class KeptApartTest(MovesCase):
    def test_the_moves_handed_in_stay_as_they_were(self):
        moves = [("put", 0, "e"), ("put", 1, "n"), ("swap", 0, 2)]
        handed = list(moves)
        self.assertEqual(moved("", handed), "news")
        self.assertEqual(handed, moves)
        self.assertEqual(moved("", handed), "news")
        handed.clear()
        self.assertEqual(moved("", handed), "")
        self.assertEqual(moved("", moves), "news")

    def test_what_is_refused_changes_nothing(self):
        moves = [("put", 0, "e"), ("cut", 5)]
        self.assertRefused("nn", moves, 1)
        self.assertEqual(moves, [("put", 0, "e"), ("cut", 5)])
        self.assertRefused("nn", moves, 1)


if __name__ == "__main__":
    unittest.main()
