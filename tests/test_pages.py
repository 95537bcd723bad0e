"""Points 21 and 22: deeds, walks and pages in writing."""

import unittest

from helper import MOST, NO_DEEDS, NO_NUMBERS, NO_STEPS, NO_WAYS, chance_walks, office_with, soon, stands
from oxhide.errors import BadRun, BadText, OxError, TooLong
from oxhide.office import Office
from oxhide.pages import deed_text, page_text, read_deed, read_page, read_walk, walk_text

SIXTY = 10 ** 60 - 1

WRITTEN = {
    "begin ox": ("begin", "ox"),
    "begin a": ("begin", "a"),
    "begin abcdefgh": ("begin", "abcdefgh"),
    "shut ox": ("shut", "ox"),
    "go ox e 12": ("go", "ox", "e", 12),
    "go ox n 1": ("go", "ox", "n", 1),
    "go e e 1": ("go", "e", "e", 1),
    "go go w 0": ("go", "go", "w", 0),
    "go ox s -5": ("go", "ox", "s", -5),
    f"go ox s {MOST + 1}": ("go", "ox", "s", MOST + 1),
    f"go ox s {SIXTY}": ("go", "ox", "s", SIXTY),
    f"go ox s -{SIXTY}": ("go", "ox", "s", -SIXTY),
    f"go ox s 1{'0' * 59}": ("go", "ox", "s", 10 ** 59),
    "turn ox": ("turn", "ox"),
    "mirror ox": ("mirror", "ox"),
    "about ox": ("about", "ox"),
    "times ox 2": ("times", "ox", 2),
    "times ox 10": ("times", "ox", 10),
    "times ox -1": ("times", "ox", -1),
    "times ox 0": ("times", "ox", 0),
    "join ox cow": ("join", "ox", "cow"),
    "join ox ox": ("join", "ox", "ox"),
    "tie ox cow": ("tie", "ox", "cow"),
    "tie tie tie": ("tie", "tie", "tie"),
    "late ox 3 s 4": ("late", "ox", 3, "s", 4),
    "late ox -3 s -4": ("late", "ox", -3, "s", -4),
    f"late ox {SIXTY} s {SIXTY}": ("late", "ox", SIXTY, "s", SIXTY),
    "strike ox 0": ("strike", "ox", 0),
    "strike ox 39": ("strike", "ox", 39),
    "strike ox -39": ("strike", "ox", -39),
}

class WritingCase(unittest.TestCase):
    def assertBadText(self, at, call, text):
        with self.assertRaises(BadText) as caught:
            call(text)
        self.assertIs(type(caught.exception), BadText)
        self.assertEqual(caught.exception.at, at)


class DeedTextTest(WritingCase):
    def test_written(self):
        for text, deed in WRITTEN.items():
            self.assertEqual(deed_text(deed), text)

    def test_read(self):
        for text, deed in WRITTEN.items():
            with self.subTest(text):
                told = read_deed(text)
                self.assertEqual(told, deed)
                self.assertIs(type(told), tuple)
                self.assertEqual([type(thing) for thing in told], [type(thing) for thing in deed])

    def test_texts_that_are_no_deeds(self):
        for text in NO_DEEDS:
            with self.subTest(text=text):
                self.assertBadText(0, read_deed, text)

    def test_numbers_that_are_none(self):
        for number in NO_NUMBERS:
            for form in ("go ox e {}", "times ox {}", "late ox {} e 1", "late ox 1 e {}", "strike ox {}"):
                with self.subTest(form=form, number=number):
                    self.assertBadText(0, read_deed, form.format(number))

    def test_ways_that_are_none(self):
        for way in NO_WAYS:
            self.assertBadText(0, read_deed, f"go ox {way} 1")
            self.assertBadText(0, read_deed, f"late ox 0 {way} 1")

    def test_names_that_are_none(self):
        for name in ("", "A", "oX", "ox1", "abcdefghi", "o-x", "~", "0", "-1", "o_x", "ox\n"):
            for form in (
                "begin {}", "shut {}", "go {} e 1", "turn {}", "mirror {}", "about {}", "times {} 1", "join {} ox",
                "join ox {}", "tie {} ox", "tie ox {}", "late {} 0 e 1", "strike {} 0",
            ):
                with self.subTest(form=form, name=name):
                    self.assertBadText(0, read_deed, form.format(name))

    def test_long_texts_are_refused_soon(self):
        with soon():
            for text in ("a" * 40000, " " * 40000, "go ox e " + "9" * 39992, "begin " + "x" * 39994, "\n" * 40000):
                self.assertBadText(0, read_deed, text)


class WalkTextTest(WritingCase):
    def test_by_hand(self):
        for walk, text in (
            ([], "none"),
            ([("e", 3)], "e3"),
            ([("e", 3), ("n", 12), ("w", 3)], "e3 n12 w3"),
            ([("e", 1), ("e", 2), ("s", 10)], "e1 e2 s10"),
            ([("s", MOST)], "s1" + "0" * 30),
            ([("n", 1)] * 200, " ".join(["n1"] * 200)),
        ):
            self.assertEqual(walk_text(walk), text)
            told = read_walk(text)
            self.assertEqual(told, walk)
            self.assertIs(type(told), list)
            self.assertTrue(all(type(run) is tuple for run in told))

    def test_there_and_back(self):
        for walk in chance_walks(200, steps_most=10 ** 29):
            self.assertEqual(read_walk(walk_text(walk)), walk)

    def test_texts_that_are_no_walks(self):
        for text in (
            "", " ", "\n", "None", "NONE", "none ", " none", "none none", "none e3", "e3 none", "e", "3", "e 3", "3e",
            "e3 ", " e3", "e3  n2", "e3\n", "e3\nn2", "e3,n2", "e3n2", "E3", "x3", "en3", "ee3", "e0", "e-1", "e-0",
            "e+1", "e03", "e00", "e3.0", "e_3", "e3_0", "e1" + "0" * 29 + "1", f"e{MOST + 1}", f"e{MOST}0",
            "e" + "1" * 60, "e" + "1" * 61, "e3 n2 x1", "e3 n0", "e3 n", "e3 nn", " ".join(["n1"] * 201),
            " ".join(["n1"] * 1000), "e1" * 2,
        ):
            with self.subTest(text=text[:50]):
                self.assertBadText(0, read_walk, text)

    def test_long_texts_are_refused_soon(self):
        with soon():
            for text in ("e" * 40000, "e1 " * 13333, "e" + "9" * 39999, " " * 40000):
                self.assertBadText(0, read_walk, text)

    def test_the_refusals_of_the_walk(self):
        with self.assertRaises(TooLong):
            walk_text([("e", 1)] * 201)
        for way in NO_WAYS:
            with self.assertRaises(BadRun) as caught:
                walk_text([("e", 1), (way, 1)])
            self.assertEqual(caught.exception.at, 1)
        for many in NO_STEPS:
            with self.assertRaises(BadRun) as caught:
                walk_text([("e", many)])
            self.assertEqual(caught.exception.at, 0)

    def test_nothing_is_kept_or_changed(self):
        walk = [("e", 1), ("e", 2)]
        self.assertEqual(walk_text(walk), "e1 e2")
        self.assertEqual(walk, [("e", 1), ("e", 2)])
        for text in ("none", "e1 n2"):
            first = read_walk(text)
            kept = list(first)
            first.append(("w", 1))
            self.assertEqual(read_walk(text), kept)


LINES = [
    "begin ox", "go ox e 12", "begin cow", "tie cow ox", "late ox 0 s 4", "times cow 2", "join ox cow", "turn cow",
    "mirror cow", "about ox", "strike ox 1", "begin calf", "shut calf",
]


class PageTest(WritingCase):
    def test_the_page_of_an_office_where_nothing_was_done(self):
        self.assertEqual(page_text(Office()), "")
        office = read_page("")
        self.assertIsInstance(office, Office)
        self.assertEqual(stands(office), ([], [], []))

    def test_a_page_has_a_line_for_each_deed(self):
        self.assertEqual(page_text(office_with(*LINES)), "".join(line + "\n" for line in LINES))

    def test_a_page_has_the_deeds_that_stand(self):
        office = office_with(*LINES)
        office.undo()
        office.undo()
        self.assertEqual(page_text(office), "".join(line + "\n" for line in LINES[:-2]))
        office.redo()
        self.assertEqual(page_text(office), "".join(line + "\n" for line in LINES[:-1]))
        for _ in LINES[:-1]:
            office.undo()
        self.assertEqual(page_text(office), "")

    def test_writing_changes_nothing(self):
        office = office_with(*LINES)
        office.undo()
        ahead = stands(office)
        page_text(office)
        self.assertEqual(stands(office), ahead)

    def test_read_again(self):
        office = office_with(*LINES)
        told = read_page(page_text(office))
        self.assertEqual(stands(told), stands(office))
        for name in office.names():
            self.assertEqual(told.walk(name), office.walk(name))
        for line in reversed(LINES):
            self.assertEqual(deed_text(told.undo()), line)
        self.assertEqual(told.names(), [])

    def test_nothing_to_do_again(self):
        office = office_with(*LINES)
        office.undo()
        told = read_page(page_text(office))
        self.assertEqual(told.undone(), [])
        self.assertEqual(office.undone(), [("shut", "calf")])

    def test_an_office_that_is_read_goes_its_own_way(self):
        page = "begin ox\n"
        one, other = read_page(page), read_page(page)
        one.go("ox", "e", 1)
        self.assertEqual(other.log("ox"), [])
        self.assertEqual(read_page(page).log("ox"), [])

    def test_the_first_line_that_is_no_deed(self):
        for bad in NO_DEEDS:
            if "\n" not in bad:
                for at in (0, 1, 5):
                    page = "".join(line + "\n" for line in LINES[:at] + [bad] + LINES[at:] + ["x"])
                    with self.subTest(bad=bad, at=at):
                        self.assertBadText(at, read_page, page)

    def test_the_first_line_whose_deed_is_refused(self):
        for bad in (
            "begin ox", "go bull e 1", "go ox e 0", f"go ox e {MOST + 1}", "go ox e -1", "times ox 10", "times ox -1",
            "tie ox ox", "tie ox cow", "strike ox 1", "strike ox -1", "late ox 2 e 1", "late ox -1 e 1", "shut ox",
            "join ox bull", "join bull ox", "tie cow bull",
        ):
            page = "begin cow\nbegin ox\ngo ox e 1\ntie cow ox\n" + bad + "\nbegin ox\nwrong\n"
            with self.subTest(bad=bad):
                self.assertBadText(4, read_page, page)

    def test_full_offices_and_full_logs(self):
        page = "".join(f"begin {name}\n" for name in "abcdefgh")
        self.assertEqual(len(read_page(page).names()), 8)
        self.assertBadText(8, read_page, page + "begin i\n")
        page = "begin ox\n" + "turn ox\n" * 40
        self.assertEqual(len(read_page(page).log("ox")), 40)
        self.assertBadText(41, read_page, page + "turn ox\n")

    def test_a_last_line_without_a_line_feed(self):
        self.assertBadText(0, read_page, "begin ox")
        self.assertBadText(0, read_page, "wrong")
        self.assertBadText(0, read_page, " ")
        self.assertBadText(1, read_page, "begin ox\ngo ox e 1")
        self.assertBadText(1, read_page, "begin ox\nwrong")
        self.assertBadText(1, read_page, "begin ox\n ")
        # Where a line ahead is not well that one is named.
        self.assertBadText(0, read_page, "wrong\nbegin ox")
        self.assertBadText(1, read_page, "begin ox\nbegin ox\nbegin cow")

    def test_empty_lines(self):
        self.assertBadText(0, read_page, "\n")
        self.assertBadText(0, read_page, "\nbegin ox\n")
        self.assertBadText(1, read_page, "begin ox\n\n")
        self.assertBadText(1, read_page, "begin ox\n\nbegin cow\n")

    def test_what_the_numbers_mean_is_looked_at_by_the_office(self):
        self.assertEqual(read_deed("times ox 10"), ("times", "ox", 10))
        self.assertBadText(1, read_page, "begin ox\ntimes ox 10\n")

    def test_the_refusal_is_no_other_one(self):
        try:
            read_page("begin ox\ngo ox e 0\n")
        except OxError as error:
            self.assertIs(type(error), BadText)

    def test_long_pages_are_read_soon(self):
        page = "begin a\n" + "go a e 1\nstrike a 0\n" * 1900
        with soon():
            office = read_page(page)
            self.assertEqual(len(office.deeds()), 3801)
            self.assertEqual(page_text(office), page)
            self.assertBadText(0, read_page, "\n" * 40000)


if __name__ == "__main__":
    unittest.main()
