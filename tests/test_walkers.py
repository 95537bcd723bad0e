"""Point 20: what is told of a walker: tally, steps, walk, the names on which it hangs, and dues."""

import unittest

from helper import MOST, do_line, gone, letters_gone, office_with, runs, soon, stands
from oxhide.errors import NotMet, NoWalker, TooLong
from oxhide.office import Office
from oxhide.runs import about, mirrored, times, turned
from oxhide.tallies import NOUGHT, flipped, joined, often, quarter, tally, undone

NAMES = list("hgfedcba")


def tower(first, each, last=8):
    """Walkers one above the other: the first one does the first lines, each further one is tied as told.

    In the lines ME stands for the walker's name and BELOW for that of the one below it.
    """
    lines = []
    for at, name in enumerate(NAMES[:last]):
        lines.append(f"begin {name}")
        for line in first if at == 0 else each:
            lines.append(line.replace("ME", name).replace("BELOW", NAMES[at - 1]))
    return office_with(*lines)


def winding(runs_many):
    """An office where ox has a walk of so many runs, 36 or more, by go, times and ties."""
    office = office_with(
        "begin four", "go four e 1", "go four n 1", "go four w 1", "go four s 1",
        "begin ox", *["tie ox four"] * (runs_many // 36), "times ox 9",
    )
    for at in range(runs_many - runs_many // 36 * 36):
        office.go("ox", "enws"[at % 4], 1)
    return office


class TallyTest(unittest.TestCase):
    def test_by_hand(self):
        office = office_with("begin ox", "go ox e 3", "go ox n 2", "go ox w 3", "go ox s 2")
        self.assertEqual(office.tally("ox"), (0, 0, 6, 18, 12))
        office.times("ox", 9)
        self.assertEqual(office.tally("ox"), (0, 0, 54, 162, 108))

    def test_each_entry(self):
        word = "eennnwssss"
        start = [f"go ox {way} 1" for way in word]
        walk = runs(word)
        for lines, other in (
            ([], walk), (["turn ox"], turned(walk)), (["mirror ox"], mirrored(walk)), (["about ox"], about(walk)),
            (["times ox 0"], []), (["times ox 1"], walk), (["times ox 7"], times(walk, 7)),
            (["join ox ox"], walk + walk), (["go ox n 9"], walk + [("n", 9)]),
            (["tie ox cow"], walk + [("w", 2), ("n", 2)]),
            (["tie ox cow", "turn ox", "tie ox cow"], turned(walk + [("w", 2), ("n", 2)]) + [("w", 2), ("n", 2)]),
            (["about ox", "mirror ox", "times ox 3", "turn ox"], turned(times(mirrored(about(walk)), 3))),
        ):
            office = office_with("begin cow", "go cow w 2", "go cow n 2", "begin ox", *start, *lines)
            self.assertEqual(office.tally("ox"), gone(other), lines)
            self.assertEqual(office.steps("ox"), sum(many for way, many in other), lines)

    def test_long_runs(self):
        office = office_with("begin ox", f"go ox e {MOST}", f"go ox n {MOST}", "join ox ox", "times ox 9", "about ox")
        walk = [("e", MOST), ("n", MOST)] * 18
        self.assertEqual(office.tally("ox"), undone(tally(walk)))
        self.assertEqual(office.steps("ox"), 36 * MOST)
        self.assertEqual(office.walk("ox"), about(walk))

    def test_told_where_the_walk_is_too_long_to_be_told(self):
        office = office_with("begin ox", "go ox e 1", "go ox n 1", *["times ox 9"] * 38)
        with soon():
            self.assertEqual(office.tally("ox"), often((1, 1, 1, 1, 1), 9 ** 38))
            self.assertEqual(office.steps("ox"), 2 * 9 ** 38)
            with self.assertRaises(TooLong):
                office.walk("ox")

    def test_walkers_tied_to_one_another_forty_times_over(self):
        office = tower(["go ME e 2", "go ME n 3"], ["tie ME BELOW"] * 40)
        with soon():
            self.assertEqual(office.tally("a"), often(gone([("e", 2), ("n", 3)]), 40 ** 7))
            self.assertEqual(office.steps("a"), 5 * 40 ** 7)
            self.assertEqual(office.steps("b"), 5 * 40 ** 6)

    def test_walkers_tied_and_gone_many_times(self):
        first = [f"go ME e {MOST}", f"go ME n {MOST}"] + ["times ME 9"] * 38
        office = tower(first, ["tie ME BELOW"] + ["times ME 9"] * 39)
        many = 9 ** (38 + 7 * 39)
        with soon():
            self.assertEqual(office.tally("a"), often(tally([("e", MOST), ("n", MOST)]), many))
            self.assertEqual(office.steps("a"), 2 * MOST * many)

    def test_walkers_tied_with_turns_between(self):
        each = ["tie ME BELOW", "turn ME", "tie ME BELOW", "mirror ME", "tie ME BELOW", "about ME"] * 6
        office = tower(["go ME e 2", "go ME n 3", "go ME e 1"], each)
        told = gone([("e", 2), ("n", 3), ("e", 1)])
        for _ in range(7):
            below = told
            told = NOUGHT
            for _ in range(6):
                told = quarter(joined(told, below))
                told = flipped(joined(told, below))
                told = undone(joined(told, below))
        with soon():
            self.assertEqual(office.tally("a"), told)
            self.assertEqual(office.steps("a"), 6 * 18 ** 7)


class WalkTest(unittest.TestCase):
    def assertTooLong(self, office, name):
        ahead = stands(office)
        with self.assertRaises(TooLong):
            office.walk(name)
        self.assertEqual(stands(office), ahead)

    def test_walks_of_200_and_of_201_runs(self):
        for many in (180, 199, 200):
            office = winding(many)
            self.assertEqual(len(office.walk("ox")), many)
            self.assertEqual(office.tally("ox"), tally(office.walk("ox")))
        # The walk of 200 runs ends with a run south, so that this is one run more.
        office = winding(200)
        office.go("ox", "w", 1)
        self.assertEqual(office.steps("ox"), 201)
        self.assertTooLong(office, "ox")
        self.assertTooLong(winding(201), "ox")

    def test_runs_are_counted_tidied(self):
        office = winding(200)
        way = office.walk("ox")[-1][0]
        office.go("ox", way, 5)
        self.assertEqual(len(office.walk("ox")), 200)
        self.assertEqual(office.walk("ox")[-1], (way, 6))

    def test_too_long_on_the_way(self):
        for line in ("times ox 0", "turn ox", "about ox"):
            office = winding(201)
            self.assertTooLong(office, "ox")
            office = office_with(*[" ".join(map(str, deed)) for deed in office.deeds()], line)
            self.assertTooLong(office, "ox")
            self.assertEqual(office.steps("ox"), 0 if "times" in line else 201)

    def test_an_entry_struck_out_ahead_lets_it_be_told(self):
        office = winding(201)
        office.times("ox", 0)
        self.assertTooLong(office, "ox")
        last = len(office.log("ox")) - 2
        office.strike("ox", last)
        self.assertEqual(office.walk("ox"), [])
        office.undo()
        self.assertTooLong(office, "ox")

    def test_times_that_makes_too_many_runs(self):
        office = office_with("begin ox", *[f"go ox {way} 1" for way in "en" * 12], "times ox 8")
        self.assertEqual(len(office.walk("ox")), 192)
        office.undo()
        office.times("ox", 9)
        self.assertTooLong(office, "ox")

    def test_times_that_puts_first_and_last_runs_together(self):
        # 23 runs, of which the last and the first go one way: 9 * 22 + 1 runs.
        office = office_with("begin ox", *[f"go ox {way} 1" for way in "en" * 11 + "e"], "times ox 9")
        self.assertEqual(len(office.walk("ox")), 199)
        self.assertEqual(office.walk("ox"), times(runs("en" * 11 + "e"), 9))

    def test_each_walk_tied_in_can_be_told_itself(self):
        office = winding(201)
        for line in ("begin cow", "tie cow ox", "times cow 0", "begin calf", "tie calf cow", "times calf 0"):
            do_line(office, line)
        self.assertTooLong(office, "cow")
        self.assertTooLong(office, "calf")
        self.assertEqual(office.steps("calf"), 0)
        self.assertEqual(office.walk("four"), [("e", 1), ("n", 1), ("w", 1), ("s", 1)])
        office.strike("ox", len(office.log("ox")) - 1)
        self.assertEqual(office.walk("cow"), [])
        self.assertEqual(office.walk("calf"), [])

    def test_ties_that_make_too_many_runs(self):
        office = winding(200)
        for line in ("begin cow", "go cow e 1", "go cow n 1"):
            do_line(office, line)
        office.tie("cow", "ox")
        self.assertTooLong(office, "cow")
        self.assertEqual(len(office.walk("ox")), 200)

    def test_runs_of_more_than_ten_to_the_thirty_steps(self):
        office = office_with("begin ox", f"go ox e {MOST}", f"go ox e {MOST}", "times ox 9", "begin cow", "tie cow ox",
                             "turn cow", "tie cow ox", "mirror cow", "about cow", "times cow 2")
        self.assertEqual(office.walk("ox"), [("e", 18 * MOST)])
        self.assertEqual(office.walk("cow"), [("e", 18 * MOST), ("s", 18 * MOST)] * 2)

    def test_told_soon_however_often_walkers_are_tied(self):
        office = tower(["go ME e 2"], ["tie ME BELOW"] * 40)
        with soon():
            self.assertEqual(office.walk("a"), [("e", 2 * 40 ** 7)])
        empty = tower(["times ME 3"], ["tie ME BELOW", "turn ME"] * 20)
        with soon():
            self.assertEqual(empty.walk("a"), [])
        many = tower(["go ME e 1", "go ME n 1"] * 20, ["tie ME BELOW", "times ME 0"] * 20)
        with soon():
            self.assertEqual(many.walk("a"), [])
            self.assertEqual(many.walk("h"), [("e", 1), ("n", 1)] * 20)

    def test_refused_soon_however_often_walkers_are_tied(self):
        office = tower(["go ME e 2", "go ME n 2"], ["tie ME BELOW"] * 40)
        with soon():
            self.assertEqual(len(office.walk("g")), 80)
            for name in "abcdef":
                self.assertTooLong(office, name)

    def test_told_walks_are_new_ones_though_tied(self):
        office = office_with("begin ox", "go ox e 2", "begin cow", "tie cow ox")
        for name in ("ox", "cow"):
            told = office.walk(name)
            told[0] = ("w", 9)
            told.append(("s", 1))
        self.assertEqual([office.walk("ox"), office.walk("cow")], [[("e", 2)]] * 2)


class HangsTest(unittest.TestCase):
    def test_straight_and_through_others(self):
        office = office_with("begin ox", "begin cow", "begin calf", "tie cow ox", "tie calf cow", "begin bull")
        self.assertEqual(office.hangs("ox"), [])
        self.assertEqual(office.hangs("cow"), ["ox"])
        self.assertEqual(office.hangs("calf"), ["ox", "cow"])
        self.assertEqual(office.hangs("bull"), [])

    def test_in_the_order_of_beginning_each_once(self):
        office = office_with("begin z", "begin m", "begin a", "begin k", "tie k a", "tie k z", "tie k a", "tie a m")
        self.assertEqual(office.hangs("k"), ["z", "m", "a"])
        office = office_with("begin k", "begin z", "begin a", "tie k a", "tie k z", "tie z a")
        self.assertEqual(office.hangs("k"), ["z", "a"])

    def test_where_what_is_tied_in_comes_to_nothing(self):
        office = office_with("begin ox", "begin cow", "tie cow ox", "times cow 0")
        self.assertEqual(office.hangs("cow"), ["ox"])

    def test_it_hangs_no_more_where_the_tie_is_struck_out_or_taken_back(self):
        office = office_with("begin ox", "begin cow", "tie cow ox")
        office.strike("cow", 0)
        self.assertEqual(office.hangs("cow"), [])
        office.undo()
        self.assertEqual(office.hangs("cow"), ["ox"])
        office.undo()
        self.assertEqual(office.hangs("cow"), [])

    def test_joins_hang_on_nothing(self):
        office = office_with("begin ox", "begin cow", "begin calf", "tie cow ox", "join calf cow")
        self.assertEqual(office.hangs("calf"), [])

    def test_told_soon_however_often_walkers_are_tied(self):
        lines = [f"begin {name}" for name in NAMES]
        for at, name in enumerate(NAMES):
            lines += [f"tie {name} {other}" for other in NAMES[:at]] * 5
        office = office_with(*lines)
        with soon():
            for at, name in enumerate(NAMES):
                self.assertEqual(office.hangs(name), NAMES[:at])
            self.assertEqual(office.tally("a"), NOUGHT)


class DuesTest(unittest.TestCase):
    def test_by_hand(self):
        office = office_with("begin ox", "go ox e 3", "go ox n 2", "begin cow", "go cow n 2", "go cow e 3")
        office.begin("calf")
        self.assertEqual(office.dues("ox", "cow"), 6)
        self.assertEqual(office.dues("cow", "ox"), -6)
        self.assertEqual(office.dues("ox", "ox"), 0)
        self.assertEqual(office.dues("calf", "calf"), 0)

    def test_not_met(self):
        office = office_with("begin ox", "go ox e 3", "begin cow", "go cow e 2", "begin calf",
                             "tie calf ox", "go calf n 1")
        for one in ("ox", "cow", "calf"):
            for other in ("ox", "cow", "calf"):
                if one != other:
                    with self.assertRaises(NotMet):
                        office.dues(one, other)

    def test_no_walker_goes_ahead_of_not_met(self):
        office = office_with("begin ox", "go ox e 3")
        for one, other in (("ox", "cow"), ("cow", "ox"), ("cow", "cow")):
            with self.assertRaises(NoWalker):
                office.dues(one, other)
        with self.assertRaises(NoWalker):
            Office().dues("ox", "cow")

    def test_of_walks_that_are_too_long_to_be_told(self):
        office = tower(["go ME e 2", "go ME n 3", "go ME w 2", "go ME s 3"], ["tie ME BELOW"] * 40)
        with soon():
            self.assertEqual(office.dues("a", "h"), 6 * 40 ** 7 - 6)
            self.assertEqual(office.dues("h", "a"), 6 - 6 * 40 ** 7)
            self.assertEqual(office.dues("a", "b"), 6 * 40 ** 7 - 6 * 40 ** 6)

    def test_dues_follow_late_runs(self):
        office = office_with("begin ox", "go ox e 3", "begin cow", "tie cow ox", "go cow n 2", "go cow s 2")
        self.assertEqual(office.dues("cow", "ox"), 0)
        office.late("cow", 2, "w", 1)
        office.go("cow", "e", 1)
        self.assertEqual(office.dues("cow", "ox"), letters_gone("eeennwsse")[2])
        office.late("ox", 0, "n", 7)
        self.assertEqual(office.dues("cow", "ox"), letters_gone("eeennwsse")[2])


if __name__ == "__main__":
    unittest.main()
