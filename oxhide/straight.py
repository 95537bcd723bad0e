"""Straight walks, east and north alone, counted and numbered in the order of their words."""

from oxhide.errors import BadNumber, NoNumber
from oxhide.goals import rest_behind, word_goal
from oxhide.words import look_word

MOST_STRAIGHT = 12


def straight_many(x, y, land):
    """How many straight walks come to the point and the land."""
    look_point(x, y)
    return count_at(counts_up_to(x, y), (x, y, land))


def straight_word(x, y, land, number):
    """The word of this number among the straight walks to the point and the land."""
    look_point(x, y)
    counts = counts_up_to(x, y)
    goal = (x, y, land)
    if number < 0 or number >= count_at(counts, goal):
        raise NoNumber()
    word = ""
    left = number
    while len(word) < x + y:
        # Those that go east first stand ahead of those that go north first.
        ahead = count_at(counts, rest_behind(goal, "e"))
        letter = "e" if left < ahead else "n"
        if letter == "n":
            left -= ahead
        goal = rest_behind(goal, letter)
        word += letter
    return word


def straight_number(word):
    """The number of a straight word among those that come where it comes."""
    look_word(word)
    if "w" in word or "s" in word:
        raise BadNumber()
    goal = word_goal(word)
    look_point(goal[0], goal[1])
    counts = counts_up_to(goal[0], goal[1])
    number = 0
    for letter in word:
        if letter == "n":
            number += count_at(counts, rest_behind(goal, "e"))
        goal = rest_behind(goal, letter)
    return number


def look_point(x, y):
    """Refuse a point for which straight walks are not counted."""
    if x < 0 or x > MOST_STRAIGHT or y < 0 or y > MOST_STRAIGHT:
        raise BadNumber()


def counts_up_to(x, y):
    """For each point up to (x, y) how many straight walks come to it with each land, from 0 on."""
    told = {}
    for column in range(x + 1):
        for row in range(y + 1):
            if column == 0 or row == 0:
                told[(column, row)] = [1]
            else:
                # A first step east adds one to the land of each later step north, a first step north adds nothing.
                east = [0] * row + told[(column - 1, row)]
                north = told[(column, row - 1)] + [0] * column
                told[(column, row)] = [one + other for one, other in zip(east, north)]
    return told


def count_at(counts, goal):
    """How many straight walks come to the goal."""
    x, y, land = goal
    lands = counts.get((x, y), [])
    return lands[land] if 0 <= land < len(lands) else 0
