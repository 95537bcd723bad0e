"""Walks as lists of runs, each a pair (way, many)."""

from oxhide.errors import BadNumber, BadRun, TooLong

# A tuple, not a text: within a text the empty text and "en" would be found, too.
WAYS = ("e", "n", "w", "s")
CONTRARY = {"e": "w", "n": "s", "w": "e", "s": "n"}
LEFT = {"e": "n", "n": "w", "w": "s", "s": "e"}
MIRROR = {"e": "w", "n": "n", "w": "e", "s": "s"}

MOST_RUNS = 200
MOST_STEPS = 10 ** 30
MOST_TIMES = 1000


def look_walk(walk):
    """Refuse what is no walk that may be handed in."""
    if len(walk) > MOST_RUNS:
        raise TooLong()
    for at, (way, many) in enumerate(walk):
        if way not in WAYS or many < 1 or many > MOST_STEPS:
            raise BadRun(at)


def put_together(walk):
    """Tidy a walk without looking at it: told walks may be beyond the bounds of those handed in."""
    told = []
    for way, many in walk:
        if told and told[-1][0] == way:
            told[-1] = (way, told[-1][1] + many)
        else:
            told.append((way, many))
    return told


def tidied(walk):
    """The same steps, no two neighbouring runs of one way."""
    look_walk(walk)
    return put_together(walk)


def backward(walk):
    """The walk about, without looking at it."""
    return [(CONTRARY[way], many) for way, many in reversed(walk)]


def leftward(walk):
    """The walk turned, without looking at it."""
    return [(LEFT[way], many) for way, many in walk]


def flipside(walk):
    """The walk mirrored, without looking at it."""
    return [(MIRROR[way], many) for way, many in walk]


def about(walk):
    """The contrary steps in contrary order."""
    look_walk(walk)
    return put_together(backward(walk))


def turned(walk):
    """Each step a quarter to the left."""
    look_walk(walk)
    return put_together(leftward(walk))


def mirrored(walk):
    """East and west exchanged."""
    look_walk(walk)
    return put_together(flipside(walk))


def times(walk, many):
    """The walk gone so often, one behind the other."""
    look_walk(walk)
    if many < 0 or many > MOST_TIMES:
        raise BadNumber()
    return put_together(walk * many)


def steps(walk):
    """How many steps the walk has."""
    look_walk(walk)
    return sum([many for way, many in walk])


def parted(walk, many):
    """The first so many steps and all others, two walks."""
    look_walk(walk)
    if many < 0 or many > steps(walk):
        raise BadNumber()
    ahead = []
    behind = []
    left = many
    for way, length in put_together(walk):
        here = min(left, length)
        if here > 0:
            ahead.append((way, here))
        if here < length:
            behind.append((way, length - here))
        left -= here
    return (ahead, behind)
