"""Point 23: the desk and its lines."""

import unittest

from helper import MOST, NO_DEEDS, NO_NUMBERS, soon, stands
from oxhide.desk import Desk
from oxhide.office import Office

# Each refusal that a desk may answer with, lines to be said ahead, and the line that is refused.
REFUSED = [
    ("Taken", ["begin ox"], "begin ox"),
    ("Full", [f"begin {name}" for name in "abcdefgh"], "begin ox"),
    ("NoWalker", [], "shut ox"),
    ("NoWalker", [], "go ox e 0"),
    ("NoWalker", ["begin cow"], "tie ox cow"),
    ("NoWalker", ["begin cow"], "join cow ox"),
    ("NoWalker", [], "strike ox -1"),
    ("Tied", ["begin ox", "begin cow", "tie cow ox"], "shut ox"),
    ("BadRun", ["begin ox"], "go ox e 0"),
    ("BadRun", ["begin ox"], "go ox e -1"),
    ("BadRun", ["begin ox"], f"go ox e {MOST + 1}"),
    ("BadRun", ["begin ox"], "late ox 0 e 0"),
    ("BadNumber", ["begin ox"], "times ox 10"),
    ("BadNumber", ["begin ox"], "times ox -1"),
    ("LogFull", ["begin ox"] + ["turn ox"] * 40, "turn ox"),
    ("LogFull", ["begin ox"] + ["turn ox"] * 40, "late ox 40 e 1"),
    ("NoEntry", ["begin ox"], "strike ox 0"),
    ("NoEntry", ["begin ox"], "strike ox -1"),
    ("NoEntry", ["begin ox"], "late ox 1 e 0"),
    ("Ring", ["begin ox"], "tie ox ox"),
    ("TooLong", ["begin ox", f"go ox e {MOST}", "times ox 2"], "join ox ox"),
    ("TooLong", ["begin ox", "go ox e 1", "go ox n 1"] + ["times ox 9"] * 3, "walk ox"),
    ("TooLong", ["begin ox", "go ox e 1", "go ox n 1"] + ["times ox 9"] * 3, "join ox ox"),
    ("NothingLeft", [], "undo"),
    ("NothingLeft", ["begin ox"], "redo"),
    ("NotMet", ["begin ox", "begin cow", "go ox e 1"], "dues ox cow"),
    ("NoWalker", ["begin ox", "go ox e 1"], "dues ox cow"),
    ("NoWalker", ["begin ox", "go ox e 1"], "dues cow ox"),
    ("NoWalker", [], "dues cow ox"),
    ("BadNumber", ["begin ox", f"go ox e {10 ** 15 + 1}"], "fewest ox"),
    ("BadNumber", ["begin ox", f"go ox s {10 ** 15 + 1}"], "fewest ox"),
    ("BadNumber", ["begin ox", f"go ox e {10 ** 29}", "go ox n 11", f"go ox w {10 ** 29}", "go ox s 11"], "fewest ox"),
]
ASKED = ("tally", "steps", "walk", "log", "hangs", "fewest")
REFUSED += [("NoWalker", ["begin cow"], f"{asked} ox") for asked in ASKED]

# Lines of none of the forms.
NO_LINES = [
    "", " ", "  ", "\n", "undo ", " undo", "undo ox", "undo undo", "redo ", "redo 1", "Undo", "UNDO", "names ",
    "names ox", " names", "tally", "tally ", "tally  ox", "tally Ox", "tally ox ox", "tally ox ", "tally abcdefghi",
    "tally 1", "steps", "steps OX", "steps ox cow", "walk", "walk e3", "walk ox ", "log", "log o_x", "log ox 1",
    "hangs", "hangs ox cow", "dues", "dues ox", "dues ox Cow", "dues Ox cow", "dues ox cow calf", "dues ox  cow",
    "fewest", "fewest 1 2 3", "fewest ox cow", "deeds", "undone", "twin", "done", "none", "no line", "help", "page",
    "names\n", "tally\nox", "tally ox\n",
]


def desk_with(*lines):
    """A desk to which these lines were said, each one done."""
    desk = Desk()
    for line in lines:
        assert desk.say(line) == "done", line
    return desk


class DeskTest(unittest.TestCase):
    def assertSaid(self, desk, *said):
        """Pairs of a line and its answer, one behind the other."""
        for line, told in said:
            self.assertEqual(desk.say(line), told, line)

    def test_a_desk_has_an_office_without_walkers(self):
        desk = Desk()
        self.assertIsInstance(desk.office, Office)
        self.assertEqual(stands(desk.office), ([], [], []))

    def test_the_very_office(self):
        desk = Desk()
        office = desk.office
        desk.say("begin ox")
        self.assertIs(desk.office, office)
        self.assertEqual(office.names(), ["ox"])
        office.go("ox", "e", 3)
        self.assertEqual(desk.say("walk ox"), "e3")

    def test_desks_have_nothing_to_do_with_one_another(self):
        one, other = Desk(), Desk()
        self.assertIsNot(one.office, other.office)
        one.say("begin ox")
        self.assertSaid(other, ("names", "none"), ("undo", "no NothingLeft"), ("begin ox", "done"))

    def test_each_deed_is_done(self):
        desk = Desk()
        for line in (
            "begin ox", "begin cow", "go ox e 12", "turn ox", "mirror ox", "about ox", "times ox 2", "join ox ox",
            "tie ox cow", "late ox 3 s 4", "strike ox 0", "shut ox", "shut cow",
        ):
            self.assertEqual(desk.say(line), "done", line)
        self.assertEqual(desk.office.deeds()[2], ("go", "ox", "e", 12))
        self.assertEqual(desk.office.deeds()[9], ("late", "ox", 3, "s", 4))
        self.assertEqual(len(desk.office.deeds()), 13)

    def test_undo_and_redo(self):
        desk = desk_with("begin ox", "late ox 0 s 4")
        self.assertSaid(
            desk, ("redo", "no NothingLeft"), ("undo", "late ox 0 s 4"), ("undo", "begin ox"),
            ("undo", "no NothingLeft"), ("names", "none"), ("redo", "begin ox"), ("redo", "late ox 0 s 4"),
            ("redo", "no NothingLeft"), ("walk ox", "s4"),
        )

    def test_names(self):
        desk = Desk()
        self.assertSaid(
            desk, ("names", "none"), ("begin ox", "done"), ("names", "ox"), ("begin a", "done"), ("names", "ox a"),
            ("shut ox", "done"), ("begin ox", "done"), ("names", "a ox"),
        )

    def test_tally_and_steps(self):
        desk = desk_with("begin ox")
        self.assertSaid(desk, ("tally ox", "0 0 0 0 0"), ("steps ox", "0"))
        for line in ("go ox e 3", "go ox n 2", "go ox w 4", "go ox s 2"):
            desk.say(line)
        self.assertSaid(desk, ("tally ox", "-1 0 8 16 16"), ("steps ox", "11"))

    def test_walk(self):
        desk = desk_with("begin ox")
        self.assertSaid(
            desk, ("walk ox", "none"), ("go ox e 3", "done"), ("walk ox", "e3"), ("go ox n 12", "done"),
            ("go ox w 3", "done"), ("walk ox", "e3 n12 w3"), ("times ox 0", "done"), ("walk ox", "none"),
        )

    def test_walks_of_longer_runs_than_are_handed_in(self):
        desk = desk_with("begin ox", f"go ox e {MOST}", "go ox e 1", "begin cow", "tie cow ox", "turn cow")
        self.assertSaid(desk, ("walk ox", f"e{MOST + 1}"), ("walk cow", f"n{MOST + 1}"), ("steps cow", str(MOST + 1)))

    def test_log(self):
        desk = desk_with("begin ox")
        self.assertSaid(desk, ("log ox", "0"), ("turn ox", "done"), ("log ox", "1"))
        for _ in range(39):
            desk.say("go ox e 1")
        self.assertSaid(desk, ("log ox", "40"), ("go ox e 1", "no LogFull"), ("log ox", "40"))

    def test_hangs(self):
        desk = desk_with("begin ox", "begin cow", "begin calf", "tie calf cow", "tie cow ox")
        self.assertSaid(desk, ("hangs ox", "none"), ("hangs cow", "ox"), ("hangs calf", "ox cow"))

    def test_dues(self):
        desk = desk_with("begin ox", "go ox e 3", "go ox n 2", "begin cow", "go cow n 2", "go cow e 3")
        self.assertSaid(desk, ("dues ox cow", "6"), ("dues cow ox", "-6"), ("dues ox ox", "0"))

    def test_fewest(self):
        desk = desk_with("begin ox")
        self.assertSaid(desk, ("fewest ox", "0"))
        for line in ("go ox e 3", "go ox w 3", "go ox s 2"):
            desk.say(line)
        self.assertSaid(desk, ("fewest ox", "2"), ("steps ox", "8"))
        desk = desk_with("begin ox", "go ox e 1", "go ox n 1", "go ox w 1", "go ox s 1", "times ox 9")
        self.assertSaid(desk, ("fewest ox", "12"))
        desk = desk_with("begin ox", f"go ox e {10 ** 15}", f"go ox n {10 ** 15}")
        self.assertSaid(desk, ("fewest ox", str(2 * 10 ** 15)))

    def test_refusals_by_the_names_of_their_classes(self):
        for name, lines, line in REFUSED:
            desk = desk_with(*lines)
            ahead = stands(desk.office)
            with self.subTest(line=line, name=name):
                self.assertEqual(desk.say(line), "no " + name)
                self.assertEqual(stands(desk.office), ahead)

    def test_lines_of_none_of_these_forms(self):
        asked = ("undo", "redo", "names", "tally ox", "walk ox", "log ox")
        for lines in ([], ["begin ox", "begin cow", "begin calf"]):
            desk = desk_with(*lines)
            ahead = stands(desk.office)
            for line in NO_LINES + [text for text in NO_DEEDS if text not in asked]:
                with self.subTest(line=line):
                    self.assertEqual(desk.say(line), "no line")
            self.assertEqual(stands(desk.office), ahead)

    def test_numbers_that_are_not_written_so(self):
        desk = desk_with("begin ox")
        for number in NO_NUMBERS:
            for form in ("go ox e {}", "times ox {}", "late ox {} e 1", "late ox 0 e {}", "strike ox {}"):
                self.assertEqual(desk.say(form.format(number)), "no line")
        self.assertEqual(desk.say("go ox e " + "9" * 60), "no BadRun")
        self.assertEqual(desk.say("strike ox -" + "9" * 60), "no NoEntry")

    def test_what_is_refused_lets_nothing_go(self):
        desk = desk_with("begin ox", "go ox e 1")
        self.assertSaid(
            desk, ("undo", "go ox e 1"), ("go ox e 0", "no BadRun"), ("begin", "no line"), ("tally ox", "0 0 0 0 0"),
            ("redo", "go ox e 1"), ("undo", "go ox e 1"), ("turn ox", "done"), ("redo", "no NothingLeft"),
        )

    def test_asked_again_the_same_is_told(self):
        desk = desk_with("begin ox", "go ox e 3", "begin cow", "tie cow ox", "go cow n 1")
        for line in (
            "names", "tally cow", "steps cow", "walk cow", "log cow", "hangs cow", "dues cow cow", "fewest cow",
        ):
            first = desk.say(line)
            self.assertEqual(desk.say(line), first)
            self.assertFalse(first.startswith("no "))

    def test_walkers_tied_to_one_another_many_times_over(self):
        desk = desk_with("begin a", f"go a e {MOST}", f"go a n {MOST}", *["times a 9"] * 38)
        for below, name in zip("abcdefg", "bcdefgh"):
            for line in (f"begin {name}", f"tie {name} {below}", *[f"times {name} 9"] * 39):
                desk.say(line)
        many = 9 ** (38 + 7 * 39)
        with soon():
            self.assertSaid(
                desk, ("steps h", str(2 * MOST * many)), ("hangs h", "a b c d e f g"), ("dues h h", "0"),
                ("walk h", "no TooLong"), ("fewest h", "no BadNumber"), ("log h", "40"), ("dues h a", "no NotMet"),
                ("tie a h", "no Ring"), ("join h a", "no LogFull"), ("shut a", "no Tied"),
            )
            self.assertEqual(desk.say("tally h").split()[:2], [str(MOST * many)] * 2)


if __name__ == "__main__":
    unittest.main()
