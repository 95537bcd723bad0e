"""Roads: two walks to one point, and what lies between them."""

from oxhide.errors import NotMet, TooLong
from oxhide.hedges import fields
from oxhide.runs import about, steps
from oxhide.tallies import tally

MOST_ROAD = 100


def between(one, other):
    """The land between two roads."""
    return land_between(tally(one), tally(other))


def fields_between(one, other):
    """The fields of the hedge that goes the first road and then the second one about."""
    # Asked for its refusals, which go ahead of the bound of steps.
    between(one, other)
    if steps(one) > MOST_ROAD or steps(other) > MOST_ROAD:
        raise TooLong()
    return fields(one + about(other))


def land_between(first, second):
    """The land between two roads of these tallies."""
    if first[:2] != second[:2]:
        raise NotMet()
    return first[2] - second[2]
