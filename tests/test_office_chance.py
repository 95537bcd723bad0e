"""Points 17 to 20 by chance: an office against one that goes step by step and does all deeds anew at each question."""

import random
import unittest

from helper import letters_gone, runs, soon
from oxhide.desk import Desk
from oxhide.errors import (
    BadName, BadNumber, BadRun, Full, LogFull, NoEntry, NothingLeft, NoWalker, OxError, Ring, Taken, Tied,
    TooLong,
)
from oxhide.office import Office
from oxhide.pages import deed_text, page_text, read_page

MOST = 10 ** 30
TURN = str.maketrans("enws", "nwse")
MIRROR = str.maketrans("ew", "we")
BACK = str.maketrans("enws", "wsen")

# So long a word may become here.
MOST_LETTERS = 3000


class Model:
    """An office whose walks are words; nothing is kept but the deeds."""

    def __init__(self):
        self.done = []
        self.back = []

    def logs(self):
        told = {}
        for deed in self.done:
            self.enter(told, deed)
        return told

    def enter(self, logs, deed):
        """Do a deed on logs, a dict of lists, or raise what it refuses."""
        word, name, *things = deed
        if word == "begin":
            self.refuse(not (1 <= len(name) <= 8 and name.isascii() and name.isalpha() and name.islower()), BadName)
            self.refuse(name in logs, Taken)
            self.refuse(len(logs) == 8, Full)
            logs[name] = []
            return
        self.refuse(name not in logs, NoWalker)
        self.refuse(word in ("join", "tie") and things[0] not in logs, NoWalker)
        log = logs[name]
        if word == "shut":
            self.refuse(any(entry == ("tie", name) for other in logs.values() for entry in other), Tied)
            del logs[name]
        elif word == "strike":
            self.refuse(things[0] not in range(len(log)), NoEntry)
            del log[things[0]]
        elif word == "late":
            at, way, many = things
            self.refuse(at not in range(len(log) + 1), NoEntry)
            self.put(log, at, ("go", way, many), self.bad_run(way, many))
        elif word == "go":
            self.put(log, len(log), (word, *things), self.bad_run(*things))
        elif word == "times":
            self.refuse(things[0] not in range(10), BadNumber)
            self.put(log, len(log), (word, *things))
        elif word == "tie":
            self.refuse(things[0] == name or name in self.hung(logs, things[0]), Ring)
            self.put(log, len(log), (word, *things))
        elif word == "join":
            self.refuse(len(log) == 40, LogFull)
            walk = self.walk_of(logs, things[0])
            self.refuse(walk is None, TooLong)
            log.append(("join", tuple(walk)))
        else:
            self.put(log, len(log), (word,))

    @staticmethod
    def refuse(due, error):
        if due:
            raise error()

    @staticmethod
    def bad_run(way, many):
        return way not in ("e", "n", "w", "s") or not 1 <= many <= MOST

    def put(self, log, at, entry, bad_run=False):
        if bad_run:
            raise BadRun(0)
        self.refuse(len(log) >= 40, LogFull)
        log.insert(at, entry)

    def hung(self, logs, name):
        told = set()
        for entry in logs[name]:
            if entry[0] == "tie":
                told |= {entry[1]} | self.hung(logs, entry[1])
        return told

    def words_of(self, logs, name):
        """The word behind each entry, the empty one ahead."""
        told = [""]
        for word, *things in logs[name]:
            here = told[-1]
            if word == "go":
                here += things[0] * things[1]
            elif word == "join":
                here += "".join(way * many for way, many in things[0])
            elif word == "tie":
                here += self.words_of(logs, things[0])[-1]
            elif word == "turn":
                here = here.translate(TURN)
            elif word == "mirror":
                here = here.translate(MIRROR)
            elif word == "about":
                here = here[::-1].translate(BACK)
            else:
                here *= things[0]
            told.append(here)
        return told

    def walk_of(self, logs, name):
        """The walk, or None where it can't be told."""
        words = self.words_of(logs, name)
        if any(len(runs(word)) > 200 for word in words):
            return None
        if any(self.walk_of(logs, entry[1]) is None for entry in logs[name] if entry[0] == "tie"):
            return None
        return runs(words[-1])

    def do(self, deed):
        self.enter(self.logs(), deed)
        self.done.append(deed)
        self.back = []

    def undo(self):
        self.refuse(not self.done, NothingLeft)
        self.back.append(self.done.pop())
        return self.back[-1]

    def redo(self):
        self.refuse(not self.back, NothingLeft)
        self.done.append(self.back.pop())
        return self.done[-1]

    def too_much(self):
        """Whether words have become too long to go on with them."""
        logs = self.logs()
        return any(len(word) > MOST_LETTERS for name in logs for word in self.words_of(logs, name))

    def twin(self):
        other = Model()
        other.done = list(self.done)
        other.back = list(self.back)
        return other


def outcome(call, *handed):
    """What a call tells, or the name of its refusal and its field."""
    try:
        return ("told", call(*handed))
    except OxError as error:
        return (type(error).__name__, getattr(error, "at", None))


def chance_deed(source, names):
    """A deed by chance, now and then a wrong one."""
    name = source.choice(names)
    other = source.choice(names)
    way = source.choice("enwsenwsenwsx")
    many = source.choice([1, 1, 2, 3, 4, 5, 0, -1]) if source.random() < 0.9 else MOST + 1
    deeds = {
        ("begin", name): 6,
        ("begin", source.choice(["Ox", "", "abcdefghi"])): 1,
        ("shut", name): 1,
        ("go", name, way, many): 12,
        ("turn", name): 3,
        ("mirror", name): 3,
        ("about", name): 3,
        ("times", name, source.choice([0, 1, 1, 2, 2, 2, 3, 3, 9, 10, -1])): 4,
        ("join", name, other): 3,
        ("tie", name, other): 8,
        ("late", name, source.randint(-1, 12), way, many): 4,
        ("strike", name, source.randint(-1, 12)): 4,
        ("undo",): 4,
        ("redo",): 4,
    }
    return source.choices(list(deeds), list(deeds.values()))[0]


class ChanceTest(unittest.TestCase):
    def assertSame(self, office, model):
        """The office tells what the model does."""
        logs = model.logs()
        self.assertEqual(office.names(), list(logs))
        self.assertEqual(office.deeds(), model.done)
        self.assertEqual(office.undone(), model.back[::-1])
        letters = {name: model.words_of(logs, name)[-1] for name in logs}
        for name in logs:
            self.assertEqual(office.log(name), logs[name])
            self.assertEqual(office.tally(name), letters_gone(letters[name]))
            self.assertEqual(office.steps(name), len(letters[name]))
            hung = model.hung(logs, name)
            self.assertEqual(office.hangs(name), [other for other in logs if other in hung])
            walk = model.walk_of(logs, name)
            due = ("TooLong", None) if walk is None else ("told", walk)
            self.assertEqual(outcome(office.walk, name), due)
        for one in logs:
            for other in logs:
                here = letters_gone(letters[one])
                there = letters_gone(letters[other])
                due = ("told", here[2] - there[2]) if here[:2] == there[:2] else ("NotMet", None)
                self.assertEqual(outcome(office.dues, one, other), due)

    def done_both(self, office, model, deed):
        """Do a deed at both, each time with the same outcome."""
        word, *things = deed
        if word in ("undo", "redo"):
            due = outcome(getattr(model, word))
        else:
            due = outcome(model.do, deed)
        self.assertEqual(outcome(getattr(office, word), *things), due, deed)
        return due[0] == "told"

    def run_by_chance(self, seed, names, many):
        source = random.Random(seed)
        office, model = Office(), Model()
        seen = set()
        for at in range(many):
            deed = chance_deed(source, names)
            if self.done_both(office, model, deed):
                seen.add(deed[0])
                if model.too_much():
                    self.done_both(office, model, ("undo",) if deed[0] != "undo" else ("redo",))
            if at % 12 == 0:
                self.assertSame(office, model)
            if at % 50 == 49:
                left_office, left_model = office, model
                office, model = office.twin(), model.twin()
                self.done_both(left_office, left_model, ("undo",))
                self.assertSame(left_office, left_model)
        self.assertSame(office, model)
        # An office that is read from its page stands alike, with nothing to do again.
        model.back = []
        self.assertSame(read_page(page_text(office)), model)
        return seen

    def test_few_walkers(self):
        seen = set()
        with soon(60):
            for seed in range(10):
                seen |= self.run_by_chance(seed, ["ox", "cow", "a"], 300)
        self.assertEqual(len(seen), 13)

    def test_many_walkers(self):
        with soon(60):
            for seed in range(100, 104):
                self.run_by_chance(seed, ["a", "b", "c", "d", "e", "f", "g", "h", "i", "j"], 400)

    def test_a_desk_answers_what_its_office_does(self):
        source = random.Random(7)
        desk, office = Desk(), Office()
        answers = set()
        for _ in range(3000):
            deed = chance_deed(source, ["ox", "cow", "a"])
            due = outcome(getattr(office, deed[0]), *deed[1:])
            told = desk.say(deed_text(deed))
            if deed[0] in ("undo", "redo") and due[0] == "told":
                self.assertEqual(told, deed_text(due[1]))
            elif due[0] == "BadName" or "x" in deed[2:]:
                # Such a line is no deed.
                self.assertEqual(told, "no line")
            else:
                self.assertEqual(told, "done" if due[0] == "told" else f"no {due[0]}")
                answers.add(told)
            self.assertEqual(desk.office.deeds(), office.deeds())
        self.assertLessEqual({"done", "no NoWalker", "no Taken", "no BadRun", "no Ring", "no NoEntry"}, answers)


if __name__ == "__main__":
    unittest.main()
