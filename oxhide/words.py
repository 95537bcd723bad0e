"""Words: walks written as texts, a letter for each step."""

from oxhide.errors import BadWord, TooLong
from oxhide.runs import WAYS, put_together, steps

MOST_LETTERS = 60


def look_word(word):
    """Refuse what is no word that may be handed in."""
    if len(word) > MOST_LETTERS:
        raise TooLong()
    for at, letter in enumerate(word):
        if letter not in WAYS:
            raise BadWord(at)


def word_walk(word):
    """The walk of a word, tidied."""
    look_word(word)
    return put_together([(letter, 1) for letter in word])


def walk_word(walk):
    """The word of a walk."""
    # Counted ahead of all writing, as runs may be far too long to be written out.
    if steps(walk) > MOST_LETTERS:
        raise TooLong()
    return "".join([way * many for way, many in walk])
