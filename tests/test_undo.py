"""Point 19: taking back, doing again, deeds as tuples, and twins."""

import unittest

from helper import do_line, office_with, stands
from oxhide.errors import NothingLeft, NoWalker, OxError, Taken
from oxhide.office import Office

# One deed of each kind, and what each one is as a tuple.
LINES = [
    "begin ox", "begin cow", "go ox e 12", "go cow n 5", "turn ox", "mirror ox", "about ox", "times ox 2",
    "join ox cow", "tie ox cow", "late ox 3 s 4", "strike ox 0", "join ox ox", "strike ox 7",
    "shut ox", "begin ox", "tie cow ox",
]
DEEDS = [
    ("begin", "ox"), ("begin", "cow"), ("go", "ox", "e", 12), ("go", "cow", "n", 5), ("turn", "ox"), ("mirror", "ox"),
    ("about", "ox"), ("times", "ox", 2), ("join", "ox", "cow"), ("tie", "ox", "cow"), ("late", "ox", 3, "s", 4),
    ("strike", "ox", 0), ("join", "ox", "ox"), ("strike", "ox", 7), ("shut", "ox"), ("begin", "ox"),
    ("tie", "cow", "ox"),
]


def walks(office):
    """The walks and tallies of all walkers."""
    return [(name, office.walk(name), office.tally(name), office.steps(name)) for name in office.names()]


class DeedsTest(unittest.TestCase):
    def test_deeds_as_tuples(self):
        office = office_with(*LINES)
        self.assertEqual(office.deeds(), DEEDS)
        self.assertEqual(office.undone(), [])

    def test_undo_and_redo_tell_the_deed(self):
        office = office_with(*LINES)
        for deed in reversed(DEEDS):
            self.assertEqual(office.undo(), deed)
        for deed in DEEDS:
            self.assertEqual(office.redo(), deed)
        self.assertEqual(office.deeds(), DEEDS)

    def test_each_step_back_as_if_it_had_never_been_done(self):
        office = office_with(*LINES)
        for many in range(len(LINES) - 1, -1, -1):
            office.undo()
            other = office_with(*LINES[:many])
            self.assertEqual(stands(office)[:2], stands(other)[:2])
            self.assertEqual(walks(office), walks(other))
            self.assertEqual(office.undone(), DEEDS[many:])
        self.assertEqual(office.names(), [])

    def test_each_step_forth_again(self):
        office = office_with(*LINES)
        for _ in LINES:
            office.undo()
        for many in range(1, len(LINES) + 1):
            office.redo()
            other = office_with(*LINES[:many])
            self.assertEqual(stands(office)[:2], stands(other)[:2])
            self.assertEqual(walks(office), walks(other))
            self.assertEqual(office.undone(), DEEDS[many:])

    def test_to_and_fro(self):
        office = office_with(*LINES)
        whole = stands(office)
        for many in (1, 2, 5, len(LINES)):
            for _ in range(many):
                office.undo()
            for _ in range(many):
                office.redo()
            self.assertEqual(stands(office), whole)

    def test_nothing_left(self):
        office = Office()
        with self.assertRaises(NothingLeft):
            office.undo()
        with self.assertRaises(NothingLeft):
            office.redo()
        office.begin("ox")
        with self.assertRaises(NothingLeft):
            office.redo()
        office.undo()
        with self.assertRaises(NothingLeft):
            office.undo()
        self.assertEqual(stands(office), ([], [], [("begin", "ox")]))
        office.redo()
        with self.assertRaises(NothingLeft):
            office.redo()
        self.assertEqual(stands(office), ([("ox", [], [])], [("begin", "ox")], []))

    def test_what_is_refused_is_no_deed(self):
        office = office_with("begin ox")
        for line in ("begin ox", "begin O", "go cow e 1", "go ox e 0", "times ox 10", "strike ox 0", "tie ox ox"):
            with self.assertRaises(OxError):
                do_line(office, line)
        self.assertEqual(office.deeds(), [("begin", "ox")])
        self.assertEqual(office.undo(), ("begin", "ox"))

    def test_a_new_deed_lets_go_what_was_taken_back(self):
        office = office_with("begin ox", "go ox e 1", "go ox n 2")
        office.undo()
        office.undo()
        office.go("ox", "s", 3)
        self.assertEqual(office.undone(), [])
        with self.assertRaises(NothingLeft):
            office.redo()
        self.assertEqual(office.deeds(), [("begin", "ox"), ("go", "ox", "s", 3)])
        self.assertEqual(office.walk("ox"), [("s", 3)])

    def test_so_does_the_very_deed_that_was_taken_back(self):
        office = office_with("begin ox", "go ox e 1", "go ox n 2")
        office.undo()
        office.undo()
        office.go("ox", "e", 1)
        self.assertEqual(office.undone(), [])

    def test_a_deed_that_is_refused_lets_nothing_go(self):
        office = office_with("begin ox", "go ox e 1", "go ox n 2")
        office.undo()
        office.undo()
        with self.assertRaises(Taken):
            office.begin("ox")
        with self.assertRaises(NoWalker):
            office.go("cow", "e", 1)
        self.assertEqual(office.undone(), [("go", "ox", "e", 1), ("go", "ox", "n", 2)])
        office.redo()
        office.redo()
        self.assertEqual(office.walk("ox"), [("e", 1), ("n", 2)])

    def test_asking_lets_nothing_go(self):
        office = office_with("begin ox", "begin cow", "go ox e 1", "go cow e 1", "go ox n 2")
        office.undo()
        ahead = stands(office)
        for _ in range(2):
            office.names(), office.log("ox"), office.tally("ox"), office.steps("ox"), office.walk("ox")
            office.hangs("ox"), office.dues("ox", "cow"), office.deeds(), office.undone(), office.twin()
            self.assertEqual(stands(office), ahead)

    def test_shut_taken_back_at_its_old_place(self):
        office = office_with("begin a", "begin b", "begin c", "go a e 4", "shut a", "begin a")
        self.assertEqual(office.names(), ["b", "c", "a"])
        office.undo()
        office.undo()
        self.assertEqual(office.names(), ["a", "b", "c"])
        self.assertEqual(office.walk("a"), [("e", 4)])
        office.redo()
        self.assertEqual(office.names(), ["b", "c"])

    def test_a_join_done_again_has_the_same_runs(self):
        office = office_with("begin a", "begin b", "go a e 4", "join b a", "go a n 1")
        for _ in range(3):
            office.undo()
        self.assertEqual(office.walk("a"), [])
        for _ in range(3):
            office.redo()
        self.assertEqual(office.log("b"), [("join", (("e", 4),))])

    def test_a_full_office_and_a_full_log_taken_back(self):
        office = office_with(*[f"begin {name}" for name in "abcdefgh"], *["go a e 1"] * 40)
        office.undo()
        office.turn("a")
        self.assertEqual(len(office.log("a")), 40)
        for _ in range(41):
            office.undo()
        self.assertEqual(office.names(), list("abcdefg"))
        office.begin("z")
        self.assertEqual(office.names(), list("abcdefgz"))

    def test_many_deeds(self):
        office = office_with("begin a")
        for _ in range(1000):
            office.go("a", "e", 1)
            office.strike("a", 0)
        self.assertEqual(len(office.deeds()), 2001)
        for _ in range(2000):
            office.undo()
        self.assertEqual(office.deeds(), [("begin", "a")])
        self.assertEqual(len(office.undone()), 2000)
        self.assertEqual(office.undone()[:2], [("go", "a", "e", 1), ("strike", "a", 0)])


class TwinTest(unittest.TestCase):
    def test_a_twin_stands_as_the_first_one_does(self):
        for back in (0, 1, 5, len(LINES)):
            office = office_with(*LINES)
            for _ in range(back):
                office.undo()
            twin = office.twin()
            self.assertIsInstance(twin, Office)
            self.assertIsNot(twin, office)
            self.assertEqual(stands(twin), stands(office))
            self.assertEqual(walks(twin), walks(office))

    def test_each_goes_its_own_way(self):
        office = office_with("begin ox", "begin cow", "go ox e 1", "go ox n 2")
        office.undo()
        twin = office.twin()
        ahead = stands(office)
        twin.redo()
        self.assertEqual(stands(office), ahead)
        twin.undo()
        twin.undo()
        twin.begin("calf")
        twin.tie("ox", "calf")
        twin.shut("cow")
        self.assertEqual(stands(office), ahead)
        self.assertEqual(twin.names(), ["ox", "calf"])
        ahead = stands(twin)
        office.redo()
        office.times("ox", 3)
        office.shut("cow")
        office.undo()
        self.assertEqual(stands(twin), ahead)
        self.assertEqual(twin.hangs("ox"), ["calf"])
        self.assertEqual(office.walk("ox"), [("e", 1), ("n", 2)] * 3)

    def test_a_twin_has_the_same_to_take_back_and_to_do_again(self):
        office = office_with(*LINES)
        for _ in range(4):
            office.undo()
        twin = office.twin()
        for _ in range(4):
            self.assertEqual(twin.redo(), office.redo())
        for deed in reversed(DEEDS):
            self.assertEqual(twin.undo(), deed)
        self.assertEqual(office.deeds(), DEEDS)

    def test_twins_of_twins_and_of_an_empty_office(self):
        office = Office()
        twin = office.twin()
        third = twin.twin()
        third.begin("ox")
        twin.begin("cow")
        self.assertEqual([office.names(), twin.names(), third.names()], [[], ["cow"], ["ox"]])

    def test_offices_have_nothing_to_do_with_one_another(self):
        one = office_with("begin ox", "go ox e 1")
        other = Office()
        self.assertEqual(stands(other), ([], [], []))
        other.begin("ox")
        self.assertEqual(one.walk("ox"), [("e", 1)])
        self.assertEqual(other.walk("ox"), [])


if __name__ == "__main__":
    unittest.main()
