"""The interface: each name with its arguments, each method in its class itself; and what holds for all."""

import importlib
import inspect
import pathlib
import unittest

from helper import MOST
from oxhide.desk import Desk
from oxhide.moves import moved
from oxhide.office import Office
from oxhide.pages import walk_text
from oxhide.runs import tidied, times

FUNCTIONS = {
    "runs": [
        "look_walk(walk)", "tidied(walk)", "about(walk)", "turned(walk)", "mirrored(walk)", "times(walk, many)",
        "steps(walk)", "parted(walk, many)",
    ],
    "tallies": [
        "tally(walk)", "joined(one, other)", "undone(one)", "quarter(one)", "flipped(one)", "often(one, many)",
        "parts(one, other)",
    ],
    "words": ["look_word(word)", "word_walk(word)", "walk_word(walk)"],
    "moves": ["moved(word, moves)", "bridge(one, other)"],
    "fewest": ["fewest(x, y, land)", "walk_to(x, y, land)", "firsts(x, y, land)"],
    "ways": ["how_many(many, x, y, land)", "numbered(many, x, y, land, number)", "number_of(word)"],
    "straight": ["straight_many(x, y, land)", "straight_word(x, y, land, number)", "straight_number(word)"],
    "hedges": ["rounds(walk, column, row)", "fields(walk)", "is_plain(walk)", "inner(walk)"],
    "roads": ["between(one, other)", "fields_between(one, other)"],
    "pages": [
        "deed_text(deed)", "read_deed(text)", "walk_text(walk)", "read_walk(text)", "page_text(office)",
        "read_page(text)",
    ],
}

METHODS = {
    Office: [
        "begin(name)", "shut(name)", "go(name, way, many)", "turn(name)", "mirror(name)", "about(name)",
        "times(name, many)", "join(name, other)", "tie(name, other)", "late(name, at, way, many)", "strike(name, at)",
        "undo()", "redo()", "twin()", "names()", "log(name)", "tally(name)", "steps(name)", "walk(name)",
        "hangs(name)", "dues(one, other)", "deeds()", "undone()",
    ],
    Desk: ["say(line)"],
}

PACKAGE = pathlib.Path(__file__).resolve().parent.parent / "oxhide"


def written(name, call):
    """A function as the interface writes it."""
    names = [argument for argument in inspect.signature(call).parameters if argument != "self"]
    return f"{name}({', '.join(names)})"


class InterfaceTest(unittest.TestCase):
    def test_functions(self):
        for module, lines in FUNCTIONS.items():
            found = importlib.import_module(f"oxhide.{module}")
            for line in lines:
                name = line.partition("(")[0]
                with self.subTest(module=module, line=line):
                    self.assertEqual(written(name, getattr(found, name)), line)

    def test_methods_stand_in_the_class_itself(self):
        for kind, lines in METHODS.items():
            for line in lines:
                name = line.partition("(")[0]
                with self.subTest(kind=kind, line=line):
                    self.assertIn(name, vars(kind))
                    self.assertEqual(written(name, vars(kind)[name]), line)

    def test_offices_and_desks_are_made_without_anything(self):
        self.assertEqual(written("Office", Office), "Office()")
        self.assertEqual(written("Desk", Desk), "Desk()")

    def test_the_package_has_nothing_but_its_files(self):
        names = [path.name for path in PACKAGE.iterdir() if path.name != "__pycache__"]
        self.assertIn("__init__.py", names)
        self.assertEqual([name for name in names if not name.endswith(".py")], [])


class WholeTest(unittest.TestCase):
    def test_lists_handed_in_may_be_changed_behind_a_call(self):
        walk = [("e", 1), ("n", 2)]
        told = [tidied(walk), times(walk, 2), walk_text(walk)]
        kept = [list(told[0]), list(told[1]), told[2]]
        walk.clear()
        self.assertEqual(told, kept)
        moves = [("put", 0, "e")]
        self.assertEqual(moved("n", moves), "ewn")
        self.assertEqual(moves, [("put", 0, "e")])

    def test_offices_are_as_they_were_whatever_is_done_with_their_lists(self):
        office = Office()
        office.begin("ox")
        office.go("ox", "e", MOST)
        office.join("ox", "ox")
        page = (office.names(), office.log("ox"), office.deeds())
        for told in (office.names(), office.log("ox"), office.walk("ox"), office.deeds(), office.undone()):
            told.clear()
        self.assertEqual((office.names(), office.log("ox"), office.deeds()), page)
        self.assertEqual(office.walk("ox"), [("e", 2 * MOST)])


if __name__ == "__main__":
    unittest.main()
