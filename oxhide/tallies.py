"""Tallies (x, y, land, lean, lift): where a walk comes to and what it swept."""

from oxhide.runs import look_walk

NOUGHT = (0, 0, 0, 0, 0)
STEP = {"e": (1, 0), "n": (0, 1), "w": (-1, 0), "s": (0, -1)}
PARTS = ("east", "north", "land", "lean", "lift")


def tally(walk):
    """The tally of a walk."""
    look_walk(walk)
    told = NOUGHT
    for way, many in walk:
        east, north = STEP[way]
        # A run from (0, 0) on sweeps nothing: north and south it is gone at x = 0.
        told = joined(told, (east * many, north * many, 0, 0, 0))
    return told


def joined(one, other):
    """The tally of a walk with another one behind it."""
    x, y, land, lean, lift = one
    u, v, a, b, c = other
    return (
        x + u,
        y + v,
        land + a + x * v,
        lean + b + 2 * x * a + x * x * v,
        lift + c + 2 * y * a + x * (v * v + 2 * y * v),
    )


def undone(one):
    """The tally about: put behind or ahead of the one it makes nought all along."""
    x, y, land, lean, lift = one
    return (
        0 - x,
        0 - y,
        x * y - land,
        2 * x * land - x * x * y - lean,
        2 * y * land - x * y * y - lift,
    )


def quarter(one):
    """The tally turned a quarter to the left."""
    x, y, land, lean, lift = one
    return (0 - y, x, land - x * y, x * y * y - lift, lean - x * x * y)


def flipped(one):
    """The tally mirrored, east and west exchanged."""
    x, y, land, lean, lift = one
    return (0 - x, y, 0 - land, lean, 0 - lift)


def often(one, many):
    """The tally so many times; below none, so often the tally about."""
    told = NOUGHT
    double = one if many >= 0 else undone(one)
    left = abs(many)
    # By doubling, as a great number is not to be counted through one by one.
    while left > 0:
        if left % 2 == 1:
            told = joined(told, double)
        double = joined(double, double)
        left //= 2
    return told


def parts(one, other):
    """The first word in whose number two walks differ, or None."""
    for word, here, there in zip(PARTS, tally(one), tally(other)):
        if here != there:
            return word
    return None
