"""What comes of the logs of walkers: a dict of tuples of entries, by names in the order of beginning."""

from oxhide.errors import TooLong
from oxhide.runs import MOST_RUNS, backward, flipside, leftward, put_together, steps
from oxhide.tallies import NOUGHT, flipped, joined, often, quarter, tally, undone


def log_tally(logs, name):
    """The tally of a walker's walk."""
    return outcome(logs, name, NOUGHT, tally_behind, {})


def log_steps(logs, name):
    """How many steps a walker's walk has."""
    return outcome(logs, name, 0, steps_behind, {})


def log_walk(logs, name):
    """A walker's walk, tidied, or TooLong."""
    return outcome(logs, name, [], walk_behind, {})


def hung_on(logs, name):
    """The names of all walkers on which a walker hangs, in the order of beginning."""
    found = {}
    left = [name]
    while left:
        here = left.pop()
        for entry in logs[here]:
            if entry[0] == "tie" and entry[1] not in found:
                found[entry[1]] = True
                left.append(entry[1])
    return [other for other in logs if other in found]


def outcome(logs, name, start, behind, known):
    """What comes of a walker's entries, from start on; behind tells what comes of each one.

    What came of walkers is kept in known, as they may be tied to one another far too often to be asked each time.
    """
    if name not in known:
        told = start
        for entry in logs[name]:
            tied = outcome(logs, entry[1], start, behind, known) if entry[0] == "tie" else None
            told = behind(told, entry, tied)
        known[name] = told
    return known[name]


def tally_behind(told, entry, tied):
    """The tally behind an entry; tied is that of the walker tied in."""
    word = entry[0]
    if word == "go":
        return joined(told, tally([entry[1:]]))
    if word == "join":
        return joined(told, tally(list(entry[1])))
    if word == "tie":
        return joined(told, tied)
    if word == "turn":
        return quarter(told)
    if word == "mirror":
        return flipped(told)
    if word == "about":
        return undone(told)
    return often(told, entry[1])


def steps_behind(told, entry, tied):
    """The count of steps behind an entry; tied is that of the walker tied in."""
    word = entry[0]
    if word == "go":
        return told + entry[2]
    if word == "join":
        return told + steps(list(entry[1]))
    if word == "tie":
        return told + tied
    if word == "times":
        return told * entry[1]
    return told


def walk_behind(told, entry, tied):
    """The walk behind an entry, tidied, or TooLong; tied is that of the walker tied in."""
    walk = unbound_behind(told, entry, tied)
    if len(walk) > MOST_RUNS:
        raise TooLong()
    return walk


def unbound_behind(told, entry, tied):
    """The walk behind an entry, tidied, however many runs it has."""
    word = entry[0]
    if word == "go":
        return put_behind(told, [entry[1:]])
    if word == "join":
        return put_behind(told, list(entry[1]))
    if word == "tie":
        return put_behind(told, tied)
    # These three leave a tidied walk tidied.
    if word == "turn":
        return leftward(told)
    if word == "mirror":
        return flipside(told)
    if word == "about":
        return backward(told)
    return put_together(told * entry[1])


def put_behind(walk, more):
    """A tidied walk with another one behind it, tidied."""
    # Only where they meet may two runs go one way, so no others are looked at: this is done very often.
    return walk[:-1] + put_together(walk[-1:] + more[:1]) + more[1:]
