"""The fewest steps to each point and each land."""

from oxhide.errors import BadNumber
from oxhide.goals import rest_behind
from oxhide.runs import CONTRARY, WAYS, put_together

MOST_FAR = 10 ** 15
MOST_LAND = 10 ** 30


def fewest(x, y, land):
    """The fewest steps of a walk that comes to the point and the land."""
    look_goal(x, y, land)
    return least((x, y, land))


def walk_to(x, y, land):
    """A walk of the fewest steps to the point and the land, tidied."""
    look_goal(x, y, land)
    width, height, swept = upright((x, y, land))
    most = max(swept, width * height - swept)
    walk = sweeping(width, height, most)
    # Gone in contrary order the same steps sweep all of width * height that they did not sweep before.
    if most != swept:
        walk = walk[::-1]
    return [(facing(way, x, y), many) for way, many in walk]


def firsts(x, y, land):
    """The ways that some walk of the fewest steps goes first."""
    look_goal(x, y, land)
    goal = (x, y, land)
    here = least(goal)
    return [way for way in WAYS if least(rest_behind(goal, way)) == here - 1]


def look_goal(x, y, land):
    """Refuse what lies beyond the bounds."""
    if abs(x) > MOST_FAR or abs(y) > MOST_FAR or abs(land) > MOST_LAND:
        raise BadNumber()


def upright(goal):
    """The goal mirrored so that neither x nor y is below nought."""
    x, y, land = goal
    # Each of the two mirrorings makes the land contrary, so both together let it stay.
    if (x < 0) != (y < 0):
        land = 0 - land
    return (abs(x), abs(y), land)


def facing(way, x, y):
    """The way of a walk to an upright goal, mirrored to the side on which the point (x, y) lies."""
    far = x if way in ("e", "w") else y
    return CONTRARY[way] if far < 0 else way


def least(goal):
    """The fewest steps to a goal, whatever its numbers are."""
    x, y, land = upright(goal)
    most = max(land, x * y - land)
    return 2 * sides(x, y, most) - x - y


def sides(x, y, most):
    """The least sum to which x and y are raised so that their product can be at least most."""
    short = min(x, y)
    long = max(x, y)
    if short * long >= most:
        return x + y
    # The shorter one is raised first; it pays more until both are alike, and then they rise by turns.
    if long * long >= most:
        return long + (most + long - 1) // long
    return root_above(4 * most)


def root_above(number):
    """The least number whose square is at least this one."""
    high = 1
    while high * high < number:
        high *= 2
    low = 0
    while low < high:
        middle = (low + high) // 2
        if middle * middle < number:
            low = middle + 1
        else:
            high = middle
    return low


def sweeping(x, y, land):
    """A walk of the fewest steps to (x, y) that sweeps this land, which is at least half of x * y."""
    both = sides(x, y, land)
    width = min(max(x, both // 2), both - y)
    height = both - width
    # So many steps north are gone at x = width, one at x = part, and all others at x = 0.
    whole, part = divmod(land, width) if width > 0 else (0, 0)
    walk = [("s", height - y)]
    if whole < height:
        walk += [("n", height - whole - 1), ("e", part), ("n", 1)]
        walk += [("e", width - part), ("n", whole)]
    else:
        walk += [("e", width), ("n", height)]
    walk.append(("w", width - x))
    return put_together([(way, many) for way, many in walk if many > 0])
