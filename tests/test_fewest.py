"""Points 10 and 11: the fewest steps to a point and a land."""

import random
import unittest

from helper import come_to, soon, word
from oxhide.errors import BadNumber
from oxhide.fewest import fewest, firsts, walk_to
from oxhide.tallies import tally

FAR = 10 ** 15
LAND = 10 ** 30
STEPS = {"e": (1, 0), "n": (0, 1), "w": (-1, 0), "s": (0, -1)}
SEARCHED = 12


def searched(most):
    """The fewest steps to all that walks of at most so many steps come to, step by step."""
    found = {(0, 0, 0): 0}
    last = [(0, 0, 0)]
    for count in range(1, most + 1):
        reached = []
        for x, y, land in last:
            for u, v in STEPS.values():
                goal = (x + u, y + v, land + x * v)
                if goal not in found:
                    found[goal] = count
                    reached.append(goal)
        last = reached
    return found


def is_enough(x, y, more, most):
    """Whether x and y, not below nought and raised by so many steps, can have a product of at least most."""
    if more < 0:
        return False
    width = min(max(x, (x + y + more) // 2), x + more)
    return width * (x + y + more - width) >= most


def is_fewest(goal, steps):
    """Whether point 11 says so many steps."""
    x, y, land = goal
    if x < 0:
        x, land = -x, -land
    if y < 0:
        y, land = -y, -land
    most = max(land, x * y - land)
    more, odd = divmod(steps - x - y, 2)
    return odd == 0 and is_enough(x, y, more, most) and not is_enough(x, y, more - 1, most)


def slowly(x, y, land):
    """Point 11 word for word, for small numbers not below nought."""
    most = max(land, x * y - land)
    more = 0
    while max((x + k) * (y + more - k) for k in range(more + 1)) < most:
        more += 1
    return x + y + 2 * more


def behind(goal, way):
    """What is left of a goal behind a first step, as the tallies of point 6 put it together."""
    x, y, land = goal
    u, v = STEPS[way]
    return (x - u, y - v, land - u * (y - v))


def alike_goals(x, y, land):
    """A point and a land, mirrored and exchanged, with the land and with x * y less it."""
    told = []
    for swept in (land, x * y - land):
        told += [(x, y, swept), (-x, y, -swept), (x, -y, -swept), (-x, -y, swept)]
        told += [(y, x, swept), (-y, x, -swept), (y, -x, -swept), (-y, -x, swept)]
    return told


def far_goals():
    """Points and lands about the bounds, the axes, x * y and half of it."""
    near = (0, 1, -1, 2)
    for x in (0, 1, 7, 10 ** 8, FAR - 1, FAR):
        for y in (0, 1, 3, 10 ** 7 + 1, FAR // 3, FAR):
            lands = [x * y + k for k in near] + [x * y // 2 + k for k in near] + list(near)
            lands += [10 ** 15 + 1, 10 ** 29 + 7, LAND - 1, LAND, -LAND, 1 - LAND]
            for land in lands:
                if abs(land) <= LAND:
                    for way in (1, -1):
                        yield (x, y, way * land)
                        yield (-x, y, way * land)
                        yield (-x, -y, way * land)
                        yield (x, -y, way * land)


class FewestCase(unittest.TestCase):
    @classmethod
    def setUpClass(cls):
        cls.found = searched(SEARCHED)

    def assertWalkTo(self, goal, steps):
        walk = walk_to(*goal)
        self.assertIs(type(walk), list)
        for run in walk:
            self.assertIs(type(run), tuple)
            self.assertIn(run[0], STEPS)
            self.assertGreaterEqual(run[1], 1)
        for run, following in zip(walk, walk[1:]):
            self.assertNotEqual(run[0], following[0])
        self.assertEqual(sum(many for way, many in walk), steps)
        return walk


class NumberTest(FewestCase):
    def test_by_hand(self):
        for goal, steps in (
            ((0, 0, 0), 0), ((1, 0, 0), 1), ((0, -1, 0), 1), ((1, 1, 0), 2), ((1, 1, 1), 2), ((1, 1, 2), 4),
            ((1, 1, -1), 4), ((0, 0, 1), 4), ((0, 0, -1), 4), ((0, 0, 2), 6), ((0, 0, 3), 8), ((0, 0, 4), 8),
            ((0, 0, 5), 10), ((5, 0, 0), 5), ((5, 0, 5), 7), ((5, 0, 6), 9), ((0, 5, -5), 7), ((3, 2, 6), 5),
            ((3, 2, 7), 7), ((3, 2, -4), 9), ((-3, 2, -6), 5), ((-3, 2, 6), 9),
        ):
            with self.subTest(goal=goal):
                self.assertEqual(fewest(*goal), steps)

    def test_against_a_search(self):
        for goal, steps in self.found.items():
            self.assertEqual(fewest(*goal), steps, goal)

    def test_what_the_search_did_not_find_is_farther(self):
        for x in range(-5, 6):
            for y in range(-5, 6):
                for land in range(-45, 46):
                    if (x, y, land) not in self.found:
                        self.assertGreater(fewest(x, y, land), SEARCHED)

    def test_against_point_11_word_for_word(self):
        for x in range(8):
            for y in range(8):
                for land in range(-60, 120):
                    self.assertEqual(fewest(x, y, land), slowly(x, y, land), (x, y, land))

    def test_a_step_at_the_end_changes_it_by_one(self):
        source = random.Random(3)
        for size in (3, 10, 10 ** 6, FAR - 1):
            for _ in range(100):
                x, y = source.randint(-size, size), source.randint(-size, size)
                land = source.randint(-size * size, size * size)
                for u, v in STEPS.values():
                    change = fewest(x + u, y + v, land + x * v) - fewest(x, y, land)
                    self.assertEqual(abs(change), 1)

    def test_the_mirrored_exchanged_and_contrary_cases(self):
        source = random.Random(5)
        for size in (2, 6, 1000, 10 ** 14):
            for _ in range(60):
                x, y = source.randint(0, size), source.randint(0, size)
                land = source.randint(-4 * size * size, 5 * size * size)
                steps = fewest(x, y, land)
                for goal in alike_goals(x, y, land):
                    self.assertEqual(fewest(*goal), steps, goal)

    def test_far_ones(self):
        with soon():
            for goal in far_goals():
                self.assertTrue(is_fewest(goal, fewest(*goal)), goal)
            self.assertEqual(fewest(0, 0, LAND), 4 * FAR)
            self.assertEqual(fewest(0, 0, -LAND), 4 * FAR)
            self.assertEqual(fewest(0, 0, LAND - 1), 4 * FAR)
            self.assertEqual(fewest(FAR, FAR, LAND), 2 * FAR)
            self.assertEqual(fewest(FAR, FAR, 0), 2 * FAR)
            self.assertEqual(fewest(FAR, FAR, -1), 2 * FAR + 2)
            self.assertEqual(fewest(FAR, 0, LAND), 3 * FAR)
            self.assertEqual(fewest(-FAR, FAR, -LAND), 2 * FAR)


class WalkToTest(FewestCase):
    def test_against_a_search(self):
        for goal, steps in self.found.items():
            self.assertEqual(come_to(word(self.assertWalkTo(goal, steps))), goal)

    def test_home_and_the_axes(self):
        self.assertEqual(walk_to(0, 0, 0), [])
        self.assertEqual(walk_to(7, 0, 0), [("e", 7)])
        self.assertEqual(walk_to(0, -FAR, 0), [("s", FAR)])
        self.assertEqual(walk_to(FAR, FAR, LAND), [("e", FAR), ("n", FAR)])
        self.assertEqual(walk_to(-FAR, FAR, 0), [("n", FAR), ("w", FAR)])

    def test_middling_ones(self):
        source = random.Random(6)
        for _ in range(400):
            goal = (source.randint(-12, 12), source.randint(-12, 12), source.randint(-300, 300))
            self.assertEqual(come_to(word(self.assertWalkTo(goal, fewest(*goal)))), goal)

    def test_far_ones(self):
        with soon():
            for goal in far_goals():
                self.assertEqual(tally(self.assertWalkTo(goal, fewest(*goal)))[:3], goal)

    def test_told_lists_are_new_ones(self):
        for goal in ((0, 0, 0), (3, 2, 4), (-3, 2, 40), (3, -2, 1)):
            told = walk_to(*goal)
            first = list(told)
            told.append(("x", 0))
            told[0] = ("x", 0)
            self.assertEqual(walk_to(*goal), first)


class FirstsTest(FewestCase):
    def test_by_hand(self):
        for goal, ways in (
            ((0, 0, 0), []), ((1, 0, 0), ["e"]), ((0, 1, 0), ["n"]), ((-1, 0, 0), ["w"]), ((0, -1, 0), ["s"]),
            ((1, 1, 1), ["e"]), ((1, 1, 0), ["n"]), ((2, 2, 2), ["e", "n"]), ((0, 0, 1), ["e", "n", "w", "s"]),
            ((0, 0, -1), ["e", "n", "w", "s"]), ((-2, -2, 2), ["w", "s"]), ((-2, 2, -2), ["n", "w"]),
            ((2, -2, -2), ["e", "s"]), ((FAR, FAR, LAND), ["e"]), ((-FAR, 0, 0), ["w"]),
            ((0, 0, LAND), ["e", "n", "w", "s"]), ((FAR, -FAR, 0), ["s"]), ((FAR, -FAR, -LAND), ["e"]),
        ):
            with self.subTest(goal=goal):
                self.assertEqual(firsts(*goal), ways)

    def test_against_a_search(self):
        for goal, steps in self.found.items():
            ways = [way for way in "enws" if self.found.get(behind(goal, way)) == steps - 1]
            told = firsts(*goal)
            self.assertIs(type(told), list)
            self.assertEqual(told, ways, goal)
            self.assertEqual(told == [], goal == (0, 0, 0))

    def test_far_ones(self):
        with soon(30):
            for goal in far_goals():
                steps = fewest(*goal)
                ways = [way for way in "enws" if is_fewest(behind(goal, way), steps - 1)]
                self.assertEqual(firsts(*goal), ways, goal)

    def test_told_lists_are_new_ones(self):
        for goal in ((0, 0, 0), (2, 2, 2), (0, 0, 1)):
            told = firsts(*goal)
            first = list(told)
            told.append("x")
            told[0] = "x"
            self.assertEqual(firsts(*goal), first)


class BoundsTest(FewestCase):
    def test_at_the_bounds_and_one_within(self):
        for x in (-FAR, 1 - FAR, FAR - 1, FAR):
            for y in (-FAR, 1 - FAR, FAR - 1, FAR):
                for land in (-LAND, 1 - LAND, LAND - 1, LAND):
                    steps = fewest(x, y, land)
                    self.assertTrue(is_fewest((x, y, land), steps))
                    self.assertWalkTo((x, y, land), steps)
                    self.assertTrue(firsts(x, y, land))

    def test_beyond_the_bounds(self):
        goals = []
        for many in (FAR + 1, -FAR - 1, 10 ** 59, -10 ** 59):
            goals += [(many, 0, 0), (0, many, 0), (many, many, 0), (many, FAR, LAND)]
        for many in (LAND + 1, -LAND - 1, 10 ** 59, -10 ** 59):
            goals += [(0, 0, many), (FAR, FAR, many), (FAR + 1, 0, many)]
        for call in (fewest, walk_to, firsts):
            for goal in goals:
                with self.subTest(call=call.__name__, goal=goal), self.assertRaises(BadNumber):
                    call(*goal)


if __name__ == "__main__":
    unittest.main()
