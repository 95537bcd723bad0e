"""Points 17 and 18: the office, its walkers and logs, the deeds and what they refuse."""

import unittest

from helper import MOST, NO_STEPS, NO_WAYS, do_line, office_with, stands
from oxhide.errors import (
    BadName, BadNumber, BadRun, Full, LogFull, NoEntry, NoWalker, Ring, Taken, Tied, TooLong,
)
from oxhide.office import Office

GREAT = 10 ** 59

NAMES = ["a", "b", "ox", "cow", "herd", "calf", "bullocks", "z"]

# Texts that are no names.
NO_NAMES = [
    "", "A", "Ox", "oX", "ox1", "1", "o x", " ox", "ox ", "ox\n", "\n", "o-x", "ox_", "bullockss", "abcdefghi", "a" * 9,
    "a" * 1000, "~", "`", "{", "OX", " ",
]

# For each deed of a walker the things behind the name, such that nothing else could be refused.
FINE = {
    "shut": (), "go": ("e", 1), "turn": (), "mirror": (), "about": (), "times": (2,), "join": ("ox",), "tie": ("cow",),
    "late": (0, "e", 1), "strike": (0,),
}
# The same with all else wrong that can be.
WRONG = {
    "go": ("x", 0), "times": (-1,), "join": ("nobody",), "tie": ("nobody",), "late": (-1, "x", 0), "strike": (-1,),
}


class OfficeCase(unittest.TestCase):
    def assertRefused(self, error, office, deed, *things):
        """The deed is refused so and changes nothing; tells the error."""
        ahead = stands(office)
        with self.assertRaises(error) as caught:
            getattr(office, deed)(*things)
        # Not one that only derives from it.
        self.assertIs(type(caught.exception), error)
        self.assertEqual(stands(office), ahead)
        return caught.exception

    def full_log(self):
        """An office where ox has forty entries, and cow has none."""
        office = office_with("begin ox", "begin cow")
        for _ in range(40):
            office.go("ox", "e", 1)
        return office


class WalkersTest(OfficeCase):
    def test_an_office_begins_without_walkers(self):
        office = Office()
        self.assertEqual(office.names(), [])
        self.assertEqual(stands(office), ([], [], []))

    def test_walkers_begin_without_entries(self):
        office = Office()
        self.assertIsNone(office.begin("ox"))
        self.assertEqual(office.names(), ["ox"])
        self.assertEqual(office.log("ox"), [])
        self.assertEqual(office.walk("ox"), [])
        self.assertEqual(office.steps("ox"), 0)
        self.assertEqual(office.tally("ox"), (0, 0, 0, 0, 0))
        self.assertEqual(office.hangs("ox"), [])

    def test_names_of_one_to_eight_small_letters(self):
        for name in ("a", "z", "ab", "zzzzzzz", "abcdefgh", "ijklmnop", "qrstuvwx", "yz", "aaaaaaaa"):
            office = Office()
            office.begin(name)
            self.assertEqual(office.names(), [name])

    def test_texts_that_are_no_names(self):
        for name in NO_NAMES:
            with self.subTest(name=name):
                self.assertRefused(BadName, Office(), "begin", name)

    def test_a_name_that_is_taken(self):
        office = office_with("begin ox", "begin cow")
        for name in ("ox", "cow"):
            self.assertRefused(Taken, office, "begin", name)
        office.begin("o")

    def test_eight_walkers_and_no_more(self):
        office = Office()
        for name in NAMES:
            office.begin(name)
        self.assertEqual(office.names(), NAMES)
        self.assertRefused(Full, office, "begin", "ninth")
        # The refusals in their order.
        self.assertRefused(Taken, office, "begin", "ox")
        self.assertRefused(BadName, office, "begin", "Ox")
        office.shut("herd")
        office.begin("ninth")
        self.assertEqual(office.names(), [name for name in NAMES if name != "herd"] + ["ninth"])

    def test_names_stand_in_the_order_of_beginning(self):
        office = office_with("begin z", "begin a", "begin m")
        self.assertEqual(office.names(), ["z", "a", "m"])
        office.go("z", "e", 1)
        office.turn("a")
        self.assertEqual(office.names(), ["z", "a", "m"])
        self.assertIsNone(office.shut("z"))
        self.assertEqual(office.names(), ["a", "m"])
        office.begin("z")
        self.assertEqual(office.names(), ["a", "m", "z"])
        self.assertEqual(office.log("z"), [])

    def test_shut_is_refused_while_some_log_has_a_tie(self):
        office = office_with("begin ox", "begin cow", "begin calf", "tie cow ox", "tie calf cow")
        self.assertRefused(Tied, office, "shut", "ox")
        self.assertRefused(Tied, office, "shut", "cow")
        office.shut("calf")
        office.shut("cow")
        office.shut("ox")
        self.assertEqual(office.names(), [])

    def test_shut_once_the_ties_are_struck_out(self):
        office = office_with("begin ox", "begin cow", "tie cow ox", "times cow 0", "tie cow ox")
        self.assertRefused(Tied, office, "shut", "ox")
        office.strike("cow", 0)
        self.assertRefused(Tied, office, "shut", "ox")
        office.strike("cow", 1)
        office.shut("ox")
        self.assertEqual(office.names(), ["cow"])

    def test_a_join_ties_nothing(self):
        office = office_with("begin ox", "begin cow", "go ox e 3", "join cow ox", "shut ox")
        self.assertEqual(office.names(), ["cow"])
        self.assertEqual(office.walk("cow"), [("e", 3)])

    def test_a_walker_who_is_tied_to_others_may_be_shut(self):
        office = office_with("begin ox", "begin cow", "tie cow ox", "shut cow")
        self.assertEqual(office.names(), ["ox"])

    def test_told_lists_are_new_ones(self):
        office = office_with("begin ox", "begin cow", "go ox e 3", "tie cow ox")
        ahead = stands(office)
        for told in (
            office.names(), office.log("ox"), office.walk("ox"), office.hangs("cow"), office.deeds(), office.undone(),
        ):
            told.append("new")
            told[0] = "other"
            told.reverse()
        self.assertEqual(stands(office), ahead)
        self.assertEqual(office.walk("ox"), [("e", 3)])
        empty = office_with("begin ox")
        for told in (empty.log("ox"), empty.walk("ox"), empty.hangs("ox"), empty.undone()):
            told.append("new")
        self.assertEqual(stands(empty), ([("ox", [], [])], [("begin", "ox")], []))
        self.assertEqual(empty.walk("ox"), [])


class EntriesTest(OfficeCase):
    def test_the_entries_of_each_deed(self):
        office = office_with(
            "begin ox", "begin cow", "go cow n 4", "go ox e 3", "join ox cow", "tie ox cow", "turn ox", "mirror ox",
            "about ox", "times ox 9", "late ox 1 s 7",
        )
        self.assertEqual(office.log("ox"), [
            ("go", "e", 3), ("go", "s", 7), ("join", (("n", 4),)), ("tie", "cow"), ("turn",), ("mirror",), ("about",),
            ("times", 9),
        ])
        self.assertEqual(office.log("cow"), [("go", "n", 4)])

    def test_kinds(self):
        office = office_with("begin ox", "go ox e 3", "go ox e 4", "go ox n 1", "join ox ox", "turn ox")
        log = office.log("ox")
        self.assertIs(type(log), list)
        self.assertTrue(all(type(entry) is tuple for entry in log))
        runs = log[3][1]
        self.assertIs(type(runs), tuple)
        self.assertEqual(runs, (("e", 7), ("n", 1)))
        self.assertTrue(all(type(run) is tuple for run in runs))
        self.assertIs(type(office.walk("ox")), list)
        self.assertTrue(all(type(run) is tuple for run in office.walk("ox")))
        self.assertIs(type(office.tally("ox")), tuple)
        self.assertTrue(all(type(deed) is tuple for deed in office.deeds()))

    def test_the_deeds_tell_none(self):
        office = office_with("begin ox", "begin cow")
        for deed, things in FINE.items():
            if deed != "shut":
                self.assertIsNone(getattr(office, deed)("ox", *things), deed)
        self.assertIsNone(office.shut("ox"))
        self.assertIsNone(office.begin("ox"))

    def test_what_each_entry_does(self):
        for lines, walk in (
            (["go ox e 3"], [("e", 3)]),
            (["go ox e 3", "go ox n 2"], [("e", 3), ("n", 2)]),
            (["go ox e 3", "go ox e 2"], [("e", 5)]),
            (["go ox e 3", "go ox w 3"], [("e", 3), ("w", 3)]),
            (["go ox e 3", "go ox n 2", "turn ox"], [("n", 3), ("w", 2)]),
            (["go ox e 3", "go ox n 2", "mirror ox"], [("w", 3), ("n", 2)]),
            (["go ox e 3", "go ox n 2", "about ox"], [("s", 2), ("w", 3)]),
            (["go ox e 3", "go ox n 2", "times ox 3"], [("e", 3), ("n", 2)] * 3),
            (["go ox e 3", "go ox n 2", "times ox 1"], [("e", 3), ("n", 2)]),
            (["go ox e 3", "go ox n 2", "times ox 0"], []),
            (["go ox e 3", "times ox 9"], [("e", 27)]),
            (["turn ox", "mirror ox", "about ox", "times ox 5"], []),
            # Only what stands so far is changed, in the order of the entries.
            (["go ox e 1", "turn ox", "go ox e 1", "mirror ox"], [("n", 1), ("w", 1)]),
            (["go ox e 1", "mirror ox", "go ox e 1", "turn ox"], [("s", 1), ("n", 1)]),
            (["go ox e 1", "times ox 0", "go ox s 2"], [("s", 2)]),
            (["go ox e 1", "go ox n 1", "about ox", "times ox 2"], [("s", 1), ("w", 1)] * 2),
            (["go ox e 1", "go ox n 1", "go ox e 1", "times ox 2"], [("e", 1), ("n", 1), ("e", 2), ("n", 1), ("e", 1)]),
        ):
            office = office_with("begin ox", *lines)
            self.assertEqual(office.walk("ox"), walk, lines)
            self.assertEqual(office.steps("ox"), sum(many for way, many in walk))

    def test_a_join_stays_what_it_was(self):
        office = office_with("begin ox", "begin cow", "go ox e 3", "join cow ox", "go ox n 2", "about ox")
        self.assertEqual(office.walk("cow"), [("e", 3)])

    def test_a_join_of_the_very_one(self):
        office = office_with("begin ox", "go ox e 1", "go ox n 1", "join ox ox", "join ox ox")
        self.assertEqual(office.walk("ox"), [("e", 1), ("n", 1)] * 4)
        self.assertEqual(office.log("ox")[2:], [("join", (("e", 1), ("n", 1))), ("join", (("e", 1), ("n", 1)) * 2)])

    def test_a_join_of_an_empty_walk(self):
        office = office_with("begin ox", "begin cow", "join ox cow", "join ox ox")
        self.assertEqual(office.log("ox"), [("join", ()), ("join", ())])
        self.assertEqual(office.walk("ox"), [])

    def test_a_join_is_tidied_and_takes_ties_as_they_are(self):
        office = office_with(
            "begin ox", "begin cow", "begin calf", "go ox e 3", "tie cow ox", "go cow e 2", "join calf cow",
            "go ox e 1",
        )
        self.assertEqual(office.log("calf"), [("join", (("e", 5),))])
        self.assertEqual(office.walk("calf"), [("e", 5)])
        self.assertEqual(office.walk("cow"), [("e", 6)])

    def test_a_tie_is_what_the_other_one_is_whenever_it_is_asked(self):
        office = office_with("begin ox", "begin cow", "go cow n 1", "tie cow ox", "turn cow")
        self.assertEqual(office.walk("cow"), [("w", 1)])
        office.go("ox", "e", 2)
        self.assertEqual(office.walk("cow"), [("w", 1), ("n", 2)])
        office.late("ox", 0, "s", 5)
        self.assertEqual(office.walk("cow"), [("w", 1), ("e", 5), ("n", 2)])
        office.strike("ox", 1)
        self.assertEqual(office.walk("cow"), [("w", 1), ("e", 5)])
        self.assertEqual(office.tally("cow")[:2], (4, 0))
        self.assertEqual(office.steps("cow"), 6)

    def test_late_at_each_place(self):
        for at, ways in ((0, "sen"), (1, "esn"), (2, "ens")):
            office = office_with("begin ox", "go ox e 1", "go ox n 1")
            office.late("ox", at, "s", 1)
            self.assertEqual(office.log("ox"), [("go", way, 1) for way in ways])
        office = office_with("begin ox", "late ox 0 w 7")
        self.assertEqual(office.log("ox"), [("go", "w", 7)])

    def test_late_ahead_of_what_changes_all_so_far(self):
        office = office_with("begin ox", "go ox e 1", "turn ox", "late ox 1 e 1")
        self.assertEqual(office.walk("ox"), [("n", 2)])
        office.late("ox", 3, "e", 1)
        self.assertEqual(office.walk("ox"), [("n", 2), ("e", 1)])

    def test_strike_at_each_place(self):
        for at, left in ((0, "ns"), (1, "es"), (2, "en")):
            office = office_with("begin ox", "go ox e 1", "go ox n 1", "go ox s 1")
            office.strike("ox", at)
            self.assertEqual(office.log("ox"), [("go", way, 1) for way in left])

    def test_the_bounds_of_runs(self):
        office = office_with("begin ox", f"go ox e {MOST}", "go ox n 1", f"late ox 0 s {MOST}", "late ox 3 w 1")
        self.assertEqual(office.walk("ox"), [("s", MOST), ("e", MOST), ("n", 1), ("w", 1)])

    def test_times_nought_to_nine(self):
        for many in range(10):
            office = office_with("begin ox", "go ox e 2", "go ox n 1", f"times ox {many}")
            self.assertEqual(office.walk("ox"), [("e", 2), ("n", 1)] * many)
            self.assertEqual(office.log("ox")[2], ("times", many))


class RefusedTest(OfficeCase):
    def test_no_walker_goes_ahead_of_all(self):
        office = self.full_log()
        for deed, things in list(FINE.items()) + list(WRONG.items()):
            for name in ("nobody", "o", "oxx", *NO_NAMES):
                with self.subTest(deed=deed, things=things, name=name):
                    self.assertRefused(NoWalker, office, deed, name, *things)

    def test_no_walker_whatever_the_numbers_are(self):
        office = office_with("begin ox")
        for many in (-GREAT, -1, 0, 10, 41, MOST + 1, GREAT):
            self.assertRefused(NoWalker, office, "go", "cow", "e", many)
            self.assertRefused(NoWalker, office, "times", "cow", many)
            self.assertRefused(NoWalker, office, "strike", "cow", many)
            self.assertRefused(NoWalker, office, "late", "cow", many, "e", 1)

    def test_of_two_names_the_other_one(self):
        for office in (office_with("begin ox"), self.full_log()):
            for other in ("nobody", "", "Ox"):
                self.assertRefused(NoWalker, office, "join", "ox", other)
                self.assertRefused(NoWalker, office, "tie", "ox", other)
                self.assertRefused(NoWalker, office, "join", other, "ox")
                self.assertRefused(NoWalker, office, "tie", other, "ox")
                self.assertRefused(NoWalker, office, "join", other, other)
                self.assertRefused(NoWalker, office, "tie", other, other)

    def test_questions_refuse_with_no_walker(self):
        office = office_with("begin ox")
        for name in ("cow", *NO_NAMES):
            for asked in ("log", "tally", "steps", "walk", "hangs"):
                self.assertRefused(NoWalker, office, asked, name)
            self.assertRefused(NoWalker, office, "dues", name, "ox")
            self.assertRefused(NoWalker, office, "dues", "ox", name)

    def test_a_walker_who_was_shut(self):
        office = office_with("begin ox", "begin cow", "shut ox")
        for deed, things in FINE.items():
            self.assertRefused(NoWalker, office, deed, "ox", *things)
        self.assertRefused(NoWalker, office, "tie", "cow", "ox")

    def test_runs_that_are_none(self):
        for office in (office_with("begin ox", "go ox e 1"), self.full_log()):
            for way in NO_WAYS:
                self.assertEqual(self.assertRefused(BadRun, office, "go", "ox", way, 1).at, 0)
                self.assertEqual(self.assertRefused(BadRun, office, "late", "ox", 1, way, 1).at, 0)
            for many in NO_STEPS:
                self.assertEqual(self.assertRefused(BadRun, office, "go", "ox", "n", many).at, 0)
                self.assertEqual(self.assertRefused(BadRun, office, "late", "ox", 1, "n", many).at, 0)

    def test_times_beyond_nine(self):
        for office in (office_with("begin ox"), self.full_log()):
            for many in (-1, -2, -9, 10, 11, 1000, GREAT, -GREAT):
                self.assertRefused(BadNumber, office, "times", "ox", many)

    def test_places_that_are_none(self):
        for many in (0, 1, 2, 40):
            office = office_with("begin ox", *["turn ox"] * many)
            for at in (-1, -2, -many - 1, -GREAT, many + 1, many + 2, GREAT):
                self.assertRefused(NoEntry, office, "late", "ox", at, "e", 1)
                # NoEntry goes ahead of BadRun and LogFull.
                self.assertRefused(NoEntry, office, "late", "ox", at, "x", 0)
                self.assertRefused(NoEntry, office, "strike", "ox", at)
            self.assertRefused(NoEntry, office, "strike", "ox", many)

    def test_forty_entries_and_no_more(self):
        office = self.full_log()
        self.assertEqual(len(office.log("ox")), 40)
        for deed in ("go", "turn", "mirror", "about", "times", "join", "tie", "late"):
            with self.subTest(deed):
                self.assertRefused(LogFull, office, deed, "ox", *FINE[deed])
        for at in (0, 1, 39, 40):
            self.assertRefused(LogFull, office, "late", "ox", at, "e", 1)
        self.assertRefused(LogFull, office, "join", "ox", "cow")
        # Another one's log is not full.
        office.join("cow", "ox")
        office.tie("cow", "ox")

    def test_the_fortieth_entry_of_each_deed(self):
        for deed in ("go", "turn", "mirror", "about", "times", "join", "tie", "late"):
            office = office_with("begin ox", "begin cow", *["turn ox"] * 39)
            getattr(office, deed)("ox", *FINE[deed])
            self.assertEqual(len(office.log("ox")), 40)
            self.assertRefused(LogFull, office, deed, "ox", *FINE[deed])
            office.strike("ox", 7)
            getattr(office, deed)("ox", *FINE[deed])
            self.assertEqual(len(office.log("ox")), 40)

    def test_log_full_goes_behind_what_is_named_ahead(self):
        office = self.full_log()
        office.tie("cow", "ox")
        self.assertRefused(BadRun, office, "go", "ox", "e", 0)
        self.assertRefused(BadNumber, office, "times", "ox", 10)
        self.assertRefused(Ring, office, "tie", "ox", "ox")
        self.assertRefused(Ring, office, "tie", "ox", "cow")
        self.assertRefused(NoEntry, office, "late", "ox", 41, "e", 1)
        self.assertRefused(BadRun, office, "late", "ox", 40, "e", 0)

    def test_log_full_goes_ahead_of_too_long(self):
        office = self.full_log()
        self.long_walk(office, "cow", 201)
        self.assertRefused(LogFull, office, "join", "ox", "cow")
        office.strike("ox", 0)
        self.assertRefused(TooLong, office, "join", "ox", "cow")

    def long_walk(self, office, name, many):
        """Let a walker without entries go so many runs, 190 or more."""
        for way in "ensnwnesnw":
            office.go(name, way, 1)
        office.times(name, 9)
        office.join(name, name)
        for at in range(many - 180):
            office.go(name, "en"[at % 2], 1)

    def test_join_of_200_and_of_201_runs(self):
        office = office_with("begin ox", "begin cow", "begin calf")
        self.long_walk(office, "cow", 200)
        self.assertEqual(len(office.walk("cow")), 200)
        office.join("ox", "cow")
        self.assertEqual(office.walk("ox"), office.walk("cow"))
        self.assertEqual(office.log("ox"), [("join", tuple(office.walk("cow")))])
        self.long_walk(office, "calf", 201)
        self.assertRefused(TooLong, office, "walk", "calf")
        self.assertRefused(TooLong, office, "join", "ox", "calf")
        self.assertRefused(TooLong, office, "join", "calf", "calf")

    def test_join_of_a_walk_that_ties_in_one_that_cannot_be_told(self):
        office = office_with("begin ox", "begin cow", "begin calf")
        self.long_walk(office, "calf", 201)
        do_line(office, "tie cow calf")
        self.assertRefused(TooLong, office, "join", "ox", "cow")
        office.times("cow", 0)
        self.assertRefused(TooLong, office, "join", "ox", "cow")
        # The walk of ox itself may be told, so that one may be joined.
        office.join("cow", "ox")

    def test_join_of_runs_of_more_than_ten_to_the_thirty_steps(self):
        office = office_with("begin ox", "begin cow", f"go cow e {MOST}", "join ox cow")
        self.assertEqual(office.log("ox"), [("join", (("e", MOST),))])
        office.go("cow", "e", 1)
        self.assertEqual(office.walk("cow"), [("e", MOST + 1)])
        self.assertRefused(TooLong, office, "join", "ox", "cow")
        office.go("cow", "n", 1)
        self.assertRefused(TooLong, office, "join", "ox", "cow")
        # Joined behind the same way a longer run comes of it, which may still be told.
        office.join("ox", "ox")
        self.assertEqual(office.walk("ox"), [("e", 2 * MOST)])
        self.assertEqual(office.steps("ox"), 2 * MOST)
        self.assertRefused(TooLong, office, "join", "ox", "ox")

    def test_rings(self):
        office = office_with("begin ox", "begin cow", "begin calf", "begin bull")
        self.assertRefused(Ring, office, "tie", "ox", "ox")
        office.tie("cow", "ox")
        self.assertRefused(Ring, office, "tie", "ox", "cow")
        office.tie("calf", "cow")
        self.assertRefused(Ring, office, "tie", "ox", "calf")
        self.assertRefused(Ring, office, "tie", "cow", "calf")
        # Not round: once more, and past the one between.
        office.tie("calf", "ox")
        office.tie("cow", "ox")
        office.tie("bull", "calf")
        self.assertRefused(Ring, office, "tie", "ox", "bull")
        self.assertRefused(Ring, office, "tie", "bull", "bull")

    def test_a_ring_is_none_once_the_tie_is_struck_out(self):
        office = office_with("begin ox", "begin cow", "tie cow ox", "tie cow ox", "strike cow 0")
        self.assertRefused(Ring, office, "tie", "ox", "cow")
        office.strike("cow", 0)
        office.tie("ox", "cow")
        self.assertRefused(Ring, office, "tie", "cow", "ox")

    def test_a_join_makes_no_ring(self):
        office = office_with("begin ox", "begin cow", "join cow ox", "tie ox cow", "join cow ox")
        self.assertEqual(office.hangs("ox"), ["cow"])
        self.assertEqual(office.hangs("cow"), [])


if __name__ == "__main__":
    unittest.main()
