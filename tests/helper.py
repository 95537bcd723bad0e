"""What several tests need: walks gone step by step, walks to try, offices with deeds done, and a limit of time."""

import contextlib
import itertools
import random
import signal

from oxhide.office import Office

MOST = 10 ** 30

# Texts that are none of the four ways.
NO_WAYS = ["", "E", "N", "W", "S", "en", "nw", "ee", "enws", "east", "x", "0", " ", "e ", " e", "e\n", "~"]

# Numbers of steps that no run has.
NO_STEPS = [0, -1, -7, -MOST, MOST + 1, 10 ** 59]

# Texts that are no numbers as they are written.
NO_NUMBERS = [
    "", "-", "+1", "-0", "00", "01", "007", "-01", "--1", "1-", "1.0", "1,000", "1_000", "0x1", "1e3", "x", "one",
    "1\n", "\n1", "1" * 61, "-" + "1" * 61, "0" * 60, "1" + "0" * 60, "- 1",
]

# Texts that are no deeds.
NO_DEEDS = [
    "", " ", "\n", "ox", "begin", "begin ", " begin ox", "begin ox ", "begin  ox", "begin ox\n", "begin Ox",
    "begin ox cow", "begin abcdefghi", "begin 1", "begin o1", "Begin ox", "BEGIN ox", "beginox", "begin\nox",
    "start ox", "shut", "shut OX", "shut ox ox", "go", "go ox", "go ox e", "go ox 3", "go ox e3", "go ox 3 e",
    "go ox E 3", "go ox x 3", "go ox en 3", "go ox  3", "go ox e 3 4", "go ox e 3 n 4", "go e 3", "go Ox e 3", "turn",
    "turn ox 1", "turn ox ox", "mirror", "mirror ox e", "about", "about ox 2", "times", "times ox", "times 2 ox",
    "times ox e", "times ox 2 2", "join", "join ox", "join ox cow calf", "join ox 2", "join ox Cow", "join Ox cow",
    "tie ox", "tie ox cow 1", "tie 1 ox", "tie ox ", "late ox 3 s", "late ox s 4", "late ox s 3 4", "late ox 3 x 4",
    "late ox 3 4 s", "late ox 3 s 4 5", "late 3 ox s 4", "strike", "strike ox", "strike ox e", "strike ox 1 2",
    "undo", "redo", "names", "tally ox", "walk ox", "none", "done", "begin ox\nbegin cow", "put 0 e", "twin",
    "log ox",
]


def word(walk):
    """The walk's steps, one letter each."""
    return "".join(way * many for way, many in walk)


def runs(letters):
    """The tidied walk of a word."""
    return [(way, len(list(group))) for way, group in itertools.groupby(letters)]


def come_to(letters):
    """The point and the land of a word."""
    return letters_gone(letters)[:3]


def words(length, letters="ensw"):
    """Each word of so many letters, in the order of these."""
    return ["".join(signs) for signs in itertools.product(letters, repeat=length)]


def chance_words(many, length, seed=1):
    """Words by chance, the same ones each time."""
    source = random.Random(seed)
    return ["".join(source.choice("enws") for _ in range(length)) for _ in range(many)]


def by_goal(letters):
    """The words in groups of one point and one land, as a dict by (x, y, land)."""
    groups = {}
    for word_here in letters:
        groups.setdefault(come_to(word_here), []).append(word_here)
    return groups


def small_walks():
    """Each walk of at most five steps, tidied."""
    for length in range(6):
        for letters in itertools.product("enws", repeat=length):
            yield runs(letters)


def chance_walks(many, runs_most=12, steps_most=9, seed=1):
    """Walks by chance, the same ones each time, neighbouring runs of one way among them."""
    source = random.Random(seed)
    for _ in range(many):
        count = source.randint(0, runs_most)
        yield [(source.choice("enws"), source.randint(1, steps_most)) for _ in range(count)]


def chance_tallies(many, figures, seed=1):
    """Tallies by chance, of either sign, also such as no walk has."""
    source = random.Random(seed)
    most = 10 ** figures
    for _ in range(many):
        yield tuple(source.randint(-most, most) for _ in range(5))


def gone(walk):
    """The tally of a walk, gone step by step."""
    return letters_gone(word(walk))


def letters_gone(letters):
    """The tally of a word, gone step by step as point 5 says it."""
    x = y = land = lean = lift = 0
    for letter in letters:
        if letter == "e":
            x += 1
        elif letter == "w":
            x -= 1
        elif letter == "n":
            land += x
            lean += x * x
            lift += x * (2 * y + 1)
            y += 1
        else:
            y -= 1
            land -= x
            lean -= x * x
            lift -= x * (2 * y + 1)
    return (x, y, land, lean, lift)


def points(letters):
    """The points to which a word comes, one for each step and the beginning ahead."""
    return [come_to(letters[:many])[:2] for many in range(len(letters) + 1)]


def rounds_gone(letters):
    """The rounds of a hedge about each field, those of nought left out, gone step by step.

    Looked at from the field southward, not eastward as point 14 says it: steps east past it below it, less steps west.
    """
    gone_to = points(letters)
    low = min(y for x, y in gone_to)
    high = max(y for x, y in gone_to)
    told = {}
    for (x, y), (u, v) in zip(gone_to, gone_to[1:]):
        if u != x:
            for row in range(y, high):
                field = (min(x, u), row)
                told[field] = told.get(field, 0) + u - x
    assert all(low <= row < high for column, row in told)
    return {field: many for field, many in told.items() if many != 0}


def chance_hedges(many, steps_most, seed=1):
    """Words that come home, by chance, the same ones each time."""
    source = random.Random(seed)
    for _ in range(many):
        pairs = source.randint(0, steps_most // 2)
        letters = list("".join(source.choice(["ew", "ns"]) for _ in range(pairs)))
        source.shuffle(letters)
        yield "".join(letters)


def office_with(*lines):
    """An office that has done these deeds, each one written."""
    office = Office()
    for line in lines:
        do_line(office, line)
    return office


def do_line(office, line):
    """Do a deed that is written with blanks between."""
    deed, *things = line.split()
    getattr(office, deed)(*(int(thing) if thing.lstrip("-").isdigit() else thing for thing in things))


def stands(office):
    """All that an office tells of itself, its walks left out."""
    logs = [(name, office.log(name), office.hangs(name)) for name in office.names()]
    return (logs, office.deeds(), office.undone())


@contextlib.contextmanager
def soon(seconds=10):
    """Fail where what stands within takes longer."""
    def late(number, frame):
        raise AssertionError(f"not told within {seconds} seconds")

    before = signal.signal(signal.SIGALRM, late)
    signal.alarm(seconds)
    try:
        yield
    finally:
        signal.alarm(0)
        signal.signal(signal.SIGALRM, before)
