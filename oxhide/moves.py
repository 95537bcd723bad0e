"""Moves, which lead from word to word and change neither the place nor the land."""

from oxhide.errors import BadMove, TooLong, Unlike
from oxhide.goals import word_goal
from oxhide.runs import CONTRARY, WAYS
from oxhide.words import look_word

# How long a word may become on the way.
MOST_ON_THE_WAY = 400
# How long the words of a bridge may be.
MOST_BRIDGED = 16

# Each corner with what the land gains where its two steps are exchanged.
GAIN = {"en": -1, "nw": -1, "ws": -1, "se": -1, "ne": 1, "wn": 1, "sw": 1, "es": 1}

# The store of a bridge takes up to SIDE * SIDE of land either way. A word of MOST_BRIDGED letters has at most as many
# pairs of a step east or west and one north or south, so sorting it never asks for more.
SIDE = 8


def moved(word, moves):
    """The word behind the moves."""
    look_word(word)
    told = word
    for at, move in enumerate(moves):
        told = behind(told, move)
        if told is None:
            raise BadMove(at)
    return told


def behind(word, move):
    """The word behind one move, None where that can't be done."""
    if len(move) == 3 and move[0] == "put":
        return with_put(word, move[1], move[2])
    if len(move) == 2 and move[0] == "cut":
        return with_cut(word, move[1])
    if len(move) == 3 and move[0] == "swap":
        return with_swap(word, move[1], move[2])
    return None


def is_place(at, many):
    """Whether at is one of so many places from 0."""
    return isinstance(at, int) and not isinstance(at, bool) and 0 <= at < many


def with_put(word, at, way):
    """A step and the contrary one put in, or None."""
    if not is_place(at, len(word) + 1) or way not in WAYS or len(word) + 2 > MOST_ON_THE_WAY:
        return None
    return word[:at] + way + CONTRARY[way] + word[at:]


def with_cut(word, at):
    """Two contrary steps taken out, or None."""
    if not is_place(at, len(word) - 1) or word[at + 1] != CONTRARY[word[at]]:
        return None
    return word[:at] + word[at + 2:]


def with_swap(word, at, to):
    """Two corners exchanged, or None."""
    if not is_place(at, len(word) - 1) or not is_place(to, len(word) - 1) or to < at + 2:
        return None
    first = GAIN.get(word[at:at + 2], 0)
    second = GAIN.get(word[to:to + 2], 0)
    if first == 0 or first + second != 0:
        return None
    return exchanged(exchanged(word, at), to)


def exchanged(word, at):
    """The word with the step at this place and the next one exchanged."""
    return word[:at] + word[at + 1] + word[at] + word[at + 2:]


def bridge(one, other):
    """Moves that lead from the one word to the other."""
    look_word(one)
    look_word(other)
    if len(one) > MOST_BRIDGED or len(other) > MOST_BRIDGED:
        raise TooLong()
    if word_goal(one) != word_goal(other):
        raise Unlike()
    if one == other:
        return []
    # Words of one goal have one plain form with one store behind it, so the roads to it meet there.
    return [there for there, back in road(one)] + [back for there, back in reversed(road(other))]


def road(word):
    """Pairs of a move and the move back; they lead to the plain form of the word with a store behind it."""
    swaps, sorted_word = sorting(word)
    return store_puts(len(word)) + swaps + cuts(sorted_word)


def store_puts(start):
    """Put in an empty store from the place start on: SIDE steps each of e, n, s, w."""
    ways = "e" * SIDE + "n" * SIDE
    return [(("put", start + k, way), ("cut", start + k)) for k, way in enumerate(ways)]


def store_corner(low):
    """The place within the store of the corner that parts a store of the land low from one of low + 1.

    Below nought the n are brought ahead of the e one behind the other, above nought the w ahead of the s.
    """
    half, before = (0, 0 - low - 1) if low < 0 else (2 * SIDE, low)
    whole, part = divmod(before, SIDE)
    return half + whole + SIDE - 1 - part


def sorting(word):
    """Swaps that bring the steps east and west ahead of the others, and the word sorted so."""
    swaps = []
    letters = word
    stored = 0
    at = unsorted_place(letters)
    while at is not None:
        left = stored - GAIN[letters[at:at + 2]]
        swap = ("swap", at, len(word) + store_corner(min(stored, left)))
        # A swap done twice changes nothing, so it is its own way back.
        swaps.append((swap, swap))
        letters = exchanged(letters, at)
        stored = left
        at = unsorted_place(letters)
    return (swaps, letters)


def unsorted_place(word):
    """The first place of a step north or south with one east or west behind it, or None."""
    for at in range(len(word) - 1):
        if word[at] in "ns" and word[at + 1] in "ew":
            return at
    return None


def cuts(word):
    """Cuts that take out of the word all contrary neighbours."""
    told = []
    letters = word
    at = contrary_place(letters)
    while at is not None:
        told.append((("cut", at), ("put", at, letters[at])))
        letters = letters[:at] + letters[at + 2:]
        at = contrary_place(letters)
    return told


def contrary_place(word):
    """The first place of a step with the contrary one behind it, or None."""
    for at in range(len(word) - 1):
        if word[at + 1] == CONTRARY[word[at]]:
            return at
    return None
