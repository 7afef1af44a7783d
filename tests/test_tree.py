import inspect
import itertools
import random
import unittest

from by_words import (
    BESIDE, END, JUST_WITHIN, NO_BORDERS, NO_TIMES, OUTSIDE, SIXTY, some_time, some_window)
from fourpoints import tree as tree_file
from fourpoints.errors import FourPointsError, OutOfTimes
from fourpoints.fours import four_of, fours_of
from fourpoints.samples import part_of
from fourpoints.tree import Tree, stretches


def looked_up(begin, end):
    """The stretches by the words of the document, every level tried from above."""
    told = []
    while begin < end:
        level = max(n for n in range(41) if begin % 2 ** n == 0 and begin + 2 ** n <= end)
        told.append((level, begin // 2 ** level))
        begin += 2 ** level
    return tuple(told)


def window_looks(window):
    begin, wide, many = window
    return sum(len(looked_up(begin + k * wide, begin + (k + 1) * wide)) for k in range(many))


class Interface(unittest.TestCase):
    def test_names_arguments_and_defaults(self):
        self.assertEqual(list(inspect.signature(tree_file.stretches).parameters), ["begin", "end"])
        parameters = inspect.signature(Tree).parameters
        self.assertEqual(list(parameters), ["curve"])
        self.assertIsNone(parameters["curve"].default)
        asked = {"put": ["self", "t", "h"], "four": ["self", "begin", "end"], "fours": ["self", "window"],
                 "told": ["self"]}
        for name, arguments in asked.items():
            with self.subTest(name):
                self.assertEqual(list(inspect.signature(getattr(Tree, name)).parameters), arguments)

    def test_the_curve_by_its_name(self):
        self.assertEqual(Tree(curve=((1, 2),)).told(), ((1, 2),))
        self.assertEqual(Tree(curve=None).told(), ())
        self.assertEqual(Tree(None).told(), ())
        self.assertEqual(Tree().told(), ())


class Stretches(unittest.TestCase):
    def check(self, begin, end):
        told = stretches(begin, end)
        self.assertEqual(told, looked_up(begin, end), (begin, end))
        self.assertIs(type(told), tuple)
        self.assertLessEqual(len(told), 80)
        behind = begin
        for level, s in told:
            self.assertIn(level, range(41))
            self.assertEqual(s * 2 ** level, behind)
            behind = (s + 1) * 2 ** level
        self.assertEqual(behind, max(begin, end))

    def test_by_the_words(self):
        for begin, end, told in (
            (0, 1, ((0, 0),)),
            (0, 2, ((1, 0),)),
            (1, 2, ((0, 1),)),
            (0, 8, ((3, 0),)),
            (0, 7, ((2, 0), (1, 2), (0, 6))),
            (1, 8, ((0, 1), (1, 1), (2, 1))),
            (3, 5, ((0, 3), (0, 4))),
            (5, 14, ((0, 5), (1, 3), (2, 2), (1, 6))),
            (-1, 1, ((0, -1), (0, 0))),
            (-4, 4, ((2, -1), (2, 0))),
            (-5, -2, ((0, -5), (1, -2))),
            (-END, 0, ((40, -1),)),
            (0, END, ((40, 0),)),
            (-END, END, ((40, -1), (40, 0))),
            (END - 1, END, ((0, END - 1),)),
            (-END, 1 - END, ((0, -END),)),
            (-END, 2 - END, ((1, -(2 ** 39)),)),
        ):
            with self.subTest((begin, end)):
                self.assertEqual(stretches(begin, end), told)
                self.assertEqual(stretches(begin, end), told)

    def test_small_begins_and_ends(self):
        for begin in range(-40, 41):
            for end in range(-40, 41):
                self.check(begin, end)

    def test_beside_the_borders(self):
        for begin, end in itertools.product(BESIDE, repeat=2):
            self.check(begin, end)

    def test_great_begins_and_ends(self):
        chance = random.Random(31)
        for turn in range(1500):
            self.check(chance.randrange(-END, END + 1), chance.randrange(-END, END + 1))

    def test_at_most_eighty(self):
        self.assertEqual(len(stretches(1 - END, END - 1)), 80)
        self.assertEqual(stretches(1 - END, END - 1), looked_up(1 - END, END - 1))

    def test_no_times(self):
        for begin, end in ((0, 0), (5, 5), (5, 4), (1, -1), (END, END), (-END, -END), (END, -END)):
            with self.subTest((begin, end)):
                self.assertEqual(stretches(begin, end), ())

    def test_no_begin_or_end(self):
        for thing in NO_BORDERS:
            for begin, end in ((thing, 0), (0, thing), (thing, thing), (END, thing), (thing, END), (-END, thing),
                               (thing, -END)):
                with self.subTest(repr((begin, end))):
                    with self.assertRaises(OutOfTimes):
                        stretches(begin, end)
        with self.assertRaises(FourPointsError):
            stretches(0, END + 1)


class Trees(unittest.TestCase):
    def check(self, tree, samples, windows, borders):
        curve = tuple(sorted(samples.items()))
        self.assertEqual(tree.told(), curve)
        for window in windows:
            told = tree.fours(window)
            self.assertEqual(told, fours_of(curve, window), (curve, window))
            self.assertIs(type(told), tuple)
        for begin, end in borders:
            self.assertEqual(tree.four(begin, end), four_of(part_of(curve, begin, end)), (curve, begin, end))

    def test_by_the_words(self):
        tree = Tree(((0, 4), (1, 9), (2, -3), (5, 4)))
        self.assertEqual(tree.four(0, 6), ((0, 4), (5, 4), (2, -3), (1, 9)))
        self.assertEqual(tree.four(0, 5), ((0, 4), (2, -3), (2, -3), (1, 9)))
        self.assertEqual(tree.four(1, 2), ((1, 9),) * 4)
        self.assertIsNone(tree.four(3, 5))
        self.assertIsNone(tree.four(6, 0))
        self.assertIsNone(tree.four(5, 5))
        self.assertEqual(tree.fours((-1, 2, 4)), (
            ((0, 4),) * 4, ((1, 9), (2, -3), (2, -3), (1, 9)), None, ((5, 4),) * 4))
        self.assertIsNone(tree.put(-1, 9))
        self.assertEqual(tree.four(-END, END), ((-1, 9), (5, 4), (2, -3), (-1, 9)))
        self.assertEqual(tree.told(), ((-1, 9), (0, 4), (1, 9), (2, -3), (5, 4)))

    def test_put_again_at_the_same_time(self):
        tree = Tree(((0, 4), (1, 9), (2, -3)))
        self.assertIsNone(tree.put(1, 5))
        self.assertEqual(tree.four(0, 4), ((0, 4), (2, -3), (2, -3), (1, 5)))
        self.assertIsNone(tree.put(2, 7))
        self.assertEqual(tree.four(0, 4), ((0, 4), (2, 7), (0, 4), (2, 7)))
        self.assertIsNone(tree.put(2, 7))
        self.assertEqual(tree.told(), ((0, 4), (1, 5), (2, 7)))
        self.assertEqual(tree.fours((0, 2, 2)), (((0, 4), (1, 5), (0, 4), (1, 5)), ((2, 7),) * 4))

    def test_without_samples(self):
        for tree in (Tree(), Tree(None), Tree(())):
            self.assertEqual(tree.told(), ())
            self.assertIsNone(tree.four(-END, END))
            self.assertEqual(tree.fours((0, 1, 12)), (None,) * 12)

    def test_two_trees_are_each_their_own(self):
        one, other = Tree(), Tree()
        one.put(1, 1)
        self.assertEqual(other.told(), ())
        self.assertIsNone(other.four(0, 2))
        one.four(0, 2)
        self.assertEqual((one.looks, other.looks), (1, 1))

    def test_the_outermost_times(self):
        tree = Tree(((-END, 3), (END - 1, 1)))
        self.assertEqual(tree.four(-END, END), ((-END, 3), (END - 1, 1), (END - 1, 1), (-END, 3)))
        self.assertEqual(tree.four(END - 1, END), ((END - 1, 1),) * 4)
        self.assertEqual(tree.four(-END, 1 - END), ((-END, 3),) * 4)
        self.assertIsNone(tree.four(1 - END, END - 1))
        self.assertEqual(tree.fours((-END, END, 2)), (((-END, 3),) * 4, ((END - 1, 1),) * 4))
        self.assertEqual(tree.fours((-END, 2 * END, 1)), (tree.four(-END, END),))

    def test_heights_of_sixty_figures(self):
        tree = Tree(((0, SIXTY), (1, -SIXTY)))
        tree.put(2, SIXTY - 1)
        self.assertEqual(tree.four(0, 3), ((0, SIXTY), (2, SIXTY - 1), (1, -SIXTY), (0, SIXTY)))

    def test_every_order(self):
        rows = ((-2, 5), (3, 5), (0, 1), (4, 1), (-2, 2))
        for order in itertools.permutations(rows):
            for cut in (0, 2, 5):
                samples = dict(order[:cut])
                tree = Tree(tuple(sorted(samples.items())))
                for t, h in order[cut:]:
                    tree.put(t, h)
                    samples[t] = h
                self.check(tree, samples, ((-4, 2, 5), (-3, 3, 3)), ((-END, END), (-2, 4), (1, 5)))

    def test_against_a_look_at_all_samples(self):
        chance = random.Random(32)
        for turn in range(60):
            samples = {some_time(chance): chance.randrange(-6, 6) for n in range(chance.randrange(40))}
            tree = Tree(tuple(sorted(samples.items())))
            for deed in range(chance.randrange(40)):
                t = chance.choice(list(samples)) if samples and chance.randrange(3) == 0 else some_time(chance)
                samples[t] = chance.randrange(-6, 6)
                self.assertIsNone(tree.put(t, samples[t]))
                if deed % 5 == 0:
                    self.check(tree, samples, [some_window(chance)], [(some_time(chance), some_time(chance))])
            self.check(tree, samples, [some_window(chance) for n in range(8)],
                       [(some_time(chance), some_time(chance)) for n in range(8)] + [(-END, END)])
            self.check(Tree(tree.told()), samples, [some_window(chance)], [(-END, END)])

    def test_what_is_told_is_not_changed_by_a_later_put(self):
        tree = Tree(((0, 0),))
        told, four, fours = tree.told(), tree.four(0, 2), tree.fours((0, 1, 2))
        tree.put(0, 5)
        tree.put(1, 6)
        self.assertEqual((told, four, fours), (((0, 0),), ((0, 0),) * 4, (((0, 0),) * 4, None)))
        self.assertEqual(tree.told(), ((0, 5), (1, 6)))


class Refusals(unittest.TestCase):
    curve = ((-3, 1), (0, 5), (6, -2))

    def unchanged(self, tree, looks):
        self.assertEqual(tree.looks, looks)
        self.assertEqual(tree.told(), self.curve)
        self.assertEqual(tree.four(-END, END), four_of(self.curve))
        self.assertEqual(tree.looks, looks + 2)

    def test_a_curve_with_other_times(self):
        for curve in (((END, 0),), ((-END - 1, 0),), ((0, 0), (SIXTY, 0)), ((-SIXTY, 0), (0, 0)),
                      ((-1, 0), (0, 0), (END, 0))):
            with self.subTest(curve):
                with self.assertRaises(OutOfTimes):
                    Tree(curve)
                with self.assertRaises(OutOfTimes):
                    Tree(curve=curve)

    def test_put(self):
        for t in NO_TIMES:
            with self.subTest(repr(t)):
                tree = Tree(self.curve)
                with self.assertRaises(OutOfTimes):
                    tree.put(t, 9)
                self.unchanged(tree, 0)

    def test_four(self):
        for thing in NO_BORDERS:
            for begin, end in ((thing, 0), (0, thing), (thing, END), (-END, thing), (thing, -END), (END, thing)):
                with self.subTest(repr((begin, end))):
                    tree = Tree(self.curve)
                    with self.assertRaises(OutOfTimes):
                        tree.four(begin, end)
                    self.unchanged(tree, 0)

    def test_fours(self):
        for window in OUTSIDE:
            with self.subTest(window):
                tree = Tree(self.curve)
                tree.four(0, 1)
                with self.assertRaises(OutOfTimes):
                    tree.fours(window)
                self.unchanged(tree, 1)

    def test_windows_just_within(self):
        tree = Tree(self.curve)
        for window in JUST_WITHIN:
            with self.subTest(window):
                self.assertEqual(tree.fours(window), fours_of(self.curve, window))


class Looks(unittest.TestCase):
    def test_behind_each_call(self):
        tree = Tree(((0, 1), (3, 4)))
        self.assertEqual(tree.looks, 0)
        self.assertIs(type(tree.looks), int)
        tree.four(0, 8)
        self.assertEqual(tree.looks, 1)
        tree.four(1, 8)
        self.assertEqual(tree.looks, 4)
        tree.four(1, 8)
        self.assertEqual(tree.looks, 7)
        tree.four(8, 1)
        tree.four(4, 4)
        self.assertEqual(tree.looks, 7)
        tree.four(100, 104)
        self.assertEqual(tree.looks, 8)
        tree.fours((0, 4, 3))
        self.assertEqual(tree.looks, 11)
        tree.fours((1, 4, 2))
        self.assertEqual(tree.looks, 17)
        tree.four(1 - END, END - 1)
        self.assertEqual(tree.looks, 97)

    def test_none_for_put_for_told_and_for_what_is_refused(self):
        tree = Tree()
        self.assertEqual(tree.looks, 0)
        tree.put(0, 1)
        tree.put(0, 2)
        tree.told()
        stretches(0, 7)
        self.assertEqual(tree.looks, 0)
        for refused in (lambda: tree.put(END, 0), lambda: tree.four(0, END + 1), lambda: tree.four(-END - 1, 0),
                        lambda: tree.fours((0, END, 2)), lambda: tree.fours((END - 4, 1, 6))):
            with self.assertRaises(OutOfTimes):
                refused()
            self.assertEqual(tree.looks, 0)

    def test_the_numbers_of_the_stretches(self):
        chance = random.Random(33)
        tree = Tree(((0, 1), (30, -1)))
        looks = 0
        for turn in range(200):
            begin, end, window = some_time(chance), some_time(chance), some_window(chance)
            tree.four(begin, end)
            looks += len(looked_up(begin, end))
            self.assertEqual(tree.looks, looks, (begin, end))
            tree.fours(window)
            looks += window_looks(window)
            self.assertEqual(tree.looks, looks, window)
            tree.put(turn % 60, turn)
            self.assertEqual(len(tree.told()), len({0, 30} | {n % 60 for n in range(turn + 1)}))
            self.assertEqual(tree.looks, looks)


if __name__ == "__main__":
    unittest.main()
