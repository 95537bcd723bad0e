"""Deeds, walks and whole offices in writing."""

from oxhide.errors import BadRun, BadText, OxError, TooLong
from oxhide.names import is_name
from oxhide.office import Office
from oxhide.runs import WAYS, look_walk

# The things that stand behind the word of each deed.
FORMS = {
    "begin": ("name",),
    "shut": ("name",),
    "go": ("name", "way", "number"),
    "turn": ("name",),
    "mirror": ("name",),
    "about": ("name",),
    "times": ("name", "number"),
    "join": ("name", "name"),
    "tie": ("name", "name"),
    "late": ("name", "number", "way", "number"),
    "strike": ("name", "number"),
}

FIGURES = "0123456789"
MOST_FIGURES = 60

EMPTY = "none"


def deed_text(deed):
    """A deed, written."""
    return " ".join([str(thing) for thing in deed])


def read_deed(text):
    """The deed that is written so."""
    word, *parts = text.split(" ")
    kinds = FORMS.get(word, ())
    # No deed has nothing behind its word.
    if len(kinds) == 0 or len(parts) != len(kinds):
        raise BadText(0)
    things = [read_thing(kind, part) for kind, part in zip(kinds, parts)]
    return (word, *things)


def read_thing(kind, text):
    """The name, way or number that is written so."""
    if kind == "name" and is_name(text):
        return text
    if kind == "way" and text in WAYS:
        return text
    if kind == "number" and is_number(text):
        return int(text)
    raise BadText(0)


def is_number(text):
    """Whether a text is a number as it is written."""
    figures = text.removeprefix("-")
    if not 1 <= len(figures) <= MOST_FIGURES or not all([sign in FIGURES for sign in figures]):
        return False
    return text == "0" or figures[0] != "0"


def walk_text(walk):
    """A walk, written."""
    look_walk(walk)
    return runs_text(walk)


def runs_text(walk):
    """A walk, written without looking at it: told walks may have longer runs than those that are handed in."""
    return listed([f"{way}{many}" for way, many in walk])


def listed(things):
    """Several things, written."""
    return " ".join([str(thing) for thing in things]) if things else EMPTY


def read_walk(text):
    """The walk that is written so."""
    if text == EMPTY:
        return []
    walk = [(read_thing("way", run[:1]), read_thing("number", run[1:])) for run in text.split(" ")]
    try:
        look_walk(walk)
    except (TooLong, BadRun):
        raise BadText(0) from None
    return walk


def page_text(office):
    """The standing deeds of an office, written, a line for each."""
    return "".join([deed_text(deed) + "\n" for deed in office.deeds()])


def read_page(text):
    """An office that has done the deeds of a page."""
    office = Office()
    lines = text.split("\n")
    # Behind the last line feed nothing stands.
    last = lines.pop()
    for at, line in enumerate(lines):
        try:
            do_deed(office, read_deed(line))
        except OxError:
            raise BadText(at) from None
    if last != "":
        raise BadText(len(lines))
    return office


def do_deed(office, deed):
    """Do a deed at an office."""
    word, name, *things = deed
    if word == "begin":
        office.begin(name)
    elif word == "shut":
        office.shut(name)
    elif word == "go":
        office.go(name, things[0], things[1])
    elif word == "turn":
        office.turn(name)
    elif word == "mirror":
        office.mirror(name)
    elif word == "about":
        office.about(name)
    elif word == "times":
        office.times(name, things[0])
    elif word == "join":
        office.join(name, things[0])
    elif word == "tie":
        office.tie(name, things[0])
    elif word == "late":
        office.late(name, things[0], things[1], things[2])
    else:
        office.strike(name, things[0])
