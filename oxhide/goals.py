"""Goals (x, y, land): the point to which a walk comes and the land that it swept."""

from oxhide.tallies import STEP, tally
from oxhide.words import word_walk

HOME = (0, 0, 0)


def word_goal(word):
    """The goal to which a word comes."""
    return tally(word_walk(word))[:3]


def rest(goal, done):
    """What is left of a goal behind a walk that came to done."""
    x, y, land = goal
    u, v, swept = done
    # What follows is gone u further east, so it sweeps u more at each step north.
    return (x - u, y - v, land - swept - u * (y - v))


def rest_behind(goal, way):
    """What is left of a goal behind one step."""
    u, v = STEP[way]
    return rest(goal, (u, v, 0))
