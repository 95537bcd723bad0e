"""Hedges: walks that come home, and how often they go round each field."""

from oxhide.errors import NotHome, TooLong
from oxhide.runs import steps
from oxhide.tallies import STEP, tally

MOST_HEDGE = 200


def rounds(walk, column, row):
    """How often a hedge goes round the field, counted to the left."""
    look_hedge(walk)
    told = 0
    x = 0
    y = 0
    for way, many in walk:
        east, north = STEP[way]
        # However long it is, one run goes past a field at most once.
        if x > column and min(y, y + north * many) <= row < max(y, y + north * many):
            told += north
        x += east * many
        y += north * many
    return told


def fields(walk):
    """The fields about which a hedge makes rounds other than nought, rising."""
    look_short_hedge(walk)
    points = points_gone(walk)
    # Further west than all points each row is passed as often north as south.
    west = min([x for x, y in points])
    table = {}
    for (x, y), point in zip(points, points[1:]):
        north = point[1] - y
        if north != 0:
            row = min(y, y + north)
            for column in range(west, x):
                table[(column, row)] = table.get((column, row), 0) + north
    return sorted([(column, row, many) for (column, row), many in table.items() if many != 0])


def is_plain(walk):
    """Whether a hedge comes to no point twice, but for the beginning at its end."""
    look_short_hedge(walk)
    points = points_gone(walk)
    return len(points) > 4 and len(set(points)) == len(points) - 1


def inner(walk):
    """How many inner points a plain hedge has, None where it is not plain."""
    if not is_plain(walk):
        return None
    return abs(tally(walk)[2]) - steps(walk) // 2 + 1


def look_hedge(walk):
    """Refuse what is no hedge."""
    if tally(walk)[:2] != (0, 0):
        raise NotHome()


def look_short_hedge(walk):
    """Refuse what is no hedge, or has too many steps to be gone one by one."""
    look_hedge(walk)
    if steps(walk) > MOST_HEDGE:
        raise TooLong()


def points_gone(walk):
    """The points to which a walk of few steps comes one behind the other, the beginning first."""
    told = [(0, 0)]
    for way, many in walk:
        east, north = STEP[way]
        for step in range(many):
            x, y = told[-1]
            told.append((x + east, y + north))
    return told
