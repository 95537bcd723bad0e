"""Walks of a few steps, counted and numbered in the order of their words."""

from oxhide.errors import BadNumber, NoNumber
from oxhide.goals import HOME, rest, rest_behind, word_goal
from oxhide.tallies import STEP
from oxhide.words import look_word

MOST_COUNTED = 8

# The order of the alphabet.
LETTERS = "ensw"


def how_many(many, x, y, land):
    """How many walks of so many steps come to the point and the land."""
    look_many(many)
    return counted(tables(many), many, (x, y, land))


def numbered(many, x, y, land, number):
    """The word of this number among those of so many steps that come to the point and the land."""
    look_many(many)
    halves = tables(many)
    goal = (x, y, land)
    if number < 0 or number >= counted(halves, many, goal):
        raise NoNumber()
    word = ""
    left = number
    while len(word) < many:
        letter, left = next_letter(halves, many - len(word) - 1, goal, left)
        goal = rest_behind(goal, letter)
        word += letter
    return word


def number_of(word):
    """The number of a word among those of as many steps that come where it comes."""
    look_word(word)
    look_many(len(word))
    halves = tables(len(word))
    goal = word_goal(word)
    number = 0
    for at, letter in enumerate(word):
        still = len(word) - at - 1
        ahead = [way for way in LETTERS if way < letter]
        number += sum([counted(halves, still, rest_behind(goal, way)) for way in ahead])
        goal = rest_behind(goal, letter)
    return number


def look_many(many):
    """Refuse a number of steps for which walks are not counted."""
    if many < 0 or many > MOST_COUNTED:
        raise BadNumber()


def tables(many):
    """For each number of steps up to half of many, rounded up, how many words come to each goal."""
    told = [{HOME: 1}]
    while len(told) <= (many + 1) // 2:
        told.append(one_step_more(told[-1]))
    return told


def one_step_more(table):
    """The same counts for words of one more step."""
    told = {}
    for (x, y, land), many in table.items():
        for u, v in STEP.values():
            goal = (x + u, y + v, land + x * v)
            told[goal] = told.get(goal, 0) + many
    return told


def counted(halves, many, goal):
    """How many words of so many steps come to the goal."""
    # By halves, as the tables of half the steps are far smaller than one of all steps.
    first = halves[many // 2]
    second = halves[many - many // 2]
    return sum([count * second.get(rest(goal, done), 0) for done, count in first.items()])


def next_letter(halves, still, goal, number):
    """The first letter of the word of this number, and the number among the words that begin so."""
    left = number
    for letter in LETTERS:
        here = counted(halves, still, rest_behind(goal, letter))
        if left < here:
            break
        left -= here
    return (letter, left)
