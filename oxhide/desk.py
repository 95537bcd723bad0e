"""The desk: a line is told, and a text is answered."""

from oxhide.errors import (
    BadNumber, BadRun, BadText, Full, LogFull, NoEntry, NothingLeft, NotMet, NoWalker, Ring, Taken, Tied, TooLong,
)
from oxhide.fewest import fewest
from oxhide.names import is_name
from oxhide.office import Office
from oxhide.pages import deed_text, do_deed, listed, read_deed, runs_text

# How many names stand behind each word that is no deed's.
NAMES_BEHIND = {
    "undo": 0, "redo": 0, "names": 0, "tally": 1, "steps": 1, "walk": 1, "log": 1, "hangs": 1, "dues": 2, "fewest": 1,
}

NO_LINE = "no line"


class Desk:
    """A desk with an office of its own."""

    def __init__(self):
        self.office = Office()

    def say(self, line):
        """The answer to a line."""
        # Each refusal by its name, as an error does not tell the name of its class.
        try:
            return answer(self.office, line)
        except TooLong:
            return "no TooLong"
        except BadRun:
            return "no BadRun"
        except BadNumber:
            return "no BadNumber"
        except NotMet:
            return "no NotMet"
        except Taken:
            return "no Taken"
        except Full:
            return "no Full"
        except NoWalker:
            return "no NoWalker"
        except Tied:
            return "no Tied"
        except Ring:
            return "no Ring"
        except LogFull:
            return "no LogFull"
        except NoEntry:
            return "no NoEntry"
        except NothingLeft:
            return "no NothingLeft"


def answer(office, line):
    """The answer to a line, where it is not refused."""
    word, *names = line.split(" ")
    if word not in NAMES_BEHIND:
        return deed_answer(office, line)
    if len(names) != NAMES_BEHIND[word] or not all([is_name(name) for name in names]):
        return NO_LINE
    if word == "undo":
        return deed_text(office.undo())
    if word == "redo":
        return deed_text(office.redo())
    if word == "names":
        return listed(office.names())
    if word == "dues":
        return str(office.dues(names[0], names[1]))
    return walker_answer(office, word, names[0])


def deed_answer(office, line):
    """The answer to a deed, done where it is one."""
    try:
        deed = read_deed(line)
    except BadText:
        return NO_LINE
    do_deed(office, deed)
    return "done"


def walker_answer(office, word, name):
    """What is asked of one walker."""
    if word == "tally":
        return listed(office.tally(name))
    if word == "steps":
        return str(office.steps(name))
    if word == "walk":
        return runs_text(office.walk(name))
    if word == "log":
        return str(len(office.log(name)))
    if word == "hangs":
        return listed(office.hangs(name))
    x, y, land, lean, lift = office.tally(name)
    return str(fewest(x, y, land))
