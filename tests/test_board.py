import random
import unittest

from by_words import (
    END, JUST_WITHIN, OUTSIDE, SIXTY, SlowStore, arguments_of, dots_by_words, four_by_words, fours_by_words, some_deed,
    some_window)
from fourpoints import board as board_file
from fourpoints.board import Board, parting
from fourpoints.dots import is_heights
from fourpoints.errors import FourPointsError, NoColumn, NoName, NotApart, OutOfTimes
from fourpoints.samples import is_curve
from fourpoints.store import Store

NO_NAMES = (
    "", "abcdefghi", "abcdefghijklmnop", "a" * 80000, "A", "Abc", "abC", "a1", "1", "0abc", "a b", " ", " a", "a ",
    "\n", "a\n", "\na", "a\nb", "a_b", "a-b", ".", "#", "a.", "\t", "`", "{", "@", "[", "~",
    "\u00e4", "a\u00df", "\u00aa", "\u03b1", "\u0430", "\uff41", "e\u0301", "\u0131", "\u212a", "\x00", "a\x00",
    True, False, None, 0, 1, -1, SIXTY, (), ("a",), [], ["a"], {}, {"a": 1}, {"a"}, b"a", object(), str, Store())


def picture_by_words(curves, window, heights):
    """The picture by the words of the document, sign by sign."""
    dots = {name: dots_by_words(curve, window, heights) for name, curve in curves.items()}
    text = ""
    for row in reversed(range(heights[2])):
        for k in range(window[2]):
            having = [name for name in dots if dots[name][k] and dots[name][k][0] <= row <= dots[name][k][1]]
            text += min(having)[0] if having else "."
        text += "\n"
    return text


def kept_by_words(curves, window):
    return sum(len({s for four in fours_by_words(curve, window) if four for s in four}) for curve in curves.values())


def filled(board, curves):
    for name, curve in curves.items():
        store = board.store(name)
        for t, h in curve:
            store.put(t, h)
    return board


class Interface(unittest.TestCase):
    def test_names_and_arguments(self):
        self.assertEqual(arguments_of(Board), [])
        asked = {"store": ["self", "name"], "names": ["self"], "picture": ["self", "window", "heights"],
                 "kept": ["self", "window"]}
        for name, arguments in asked.items():
            with self.subTest(name):
                self.assertEqual(arguments_of(getattr(Board, name)), arguments)
        self.assertEqual(arguments_of(board_file.parting), ["window", "k", "part"])


class Names(unittest.TestCase):
    def test_the_same_object_for_the_same_name(self):
        board = Board()
        one = board.store("a")
        self.assertIsInstance(one, Store)
        self.assertEqual(one.told(), ())
        one.put(1, 2)
        self.assertIs(board.store("a"), one)
        self.assertIs(board.store("".join(["", "a"])), one)
        self.assertIsNot(board.store("aa"), one)
        self.assertEqual(board.store("aa").told(), ())
        self.assertIs(board.store("a"), one)
        self.assertEqual(board.store("a").told(), ((1, 2),))
        self.assertEqual(board.store("a").times(), (1,))

    def test_names(self):
        board = Board()
        self.assertEqual(board.names(), [])
        for name in ("b", "zz", "a", "abcdefgh", "b", "ab", "z", "stuvwxyz", "ijklmnop", "qr"):
            board.store(name)
        self.assertEqual(board.names(), ["a", "ab", "abcdefgh", "b", "ijklmnop", "qr", "stuvwxyz", "z", "zz"])
        self.assertIs(type(board.names()), list)

    def test_the_list_is_the_askers_own(self):
        board = Board()
        board.store("b")
        told = board.names()
        told.append("a")
        told[0] = "c"
        self.assertEqual(board.names(), ["b"])
        self.assertIsNot(board.names(), board.names())
        told = board.names()
        board.store("a")
        self.assertEqual(told, ["b"])
        self.assertEqual(board.names(), ["a", "b"])
        told.clear()
        self.assertEqual(board.picture((0, 1, 1), (0, 1, 1)), ".\n")
        self.assertEqual(board.names(), ["a", "b"])

    def test_every_letter(self):
        board = Board()
        for letter in "abcdefghijklmnopqrstuvwxyz":
            for name in (letter, letter * 8, "m" + letter):
                self.assertIs(board.store(name), board.store(name))
        self.assertEqual(len(board.names()), 26 * 3)

    def test_what_is_no_name(self):
        board = Board()
        board.store("a").put(0, 0)
        for thing in NO_NAMES:
            with self.subTest(repr(thing)[:40]):
                with self.assertRaises(NoName) as caught:
                    board.store(thing)
                self.assertIsInstance(caught.exception, FourPointsError)
                self.assertEqual(board.names(), ["a"])
        self.assertEqual(board.picture((0, 1, 1), (0, 1, 1)), "a\n")

    def test_two_boards_are_each_their_own(self):
        one, other = Board(), Board()
        one.store("a").put(0, 0)
        self.assertEqual(other.names(), [])
        self.assertEqual(other.store("a").told(), ())


class Picture(unittest.TestCase):
    def told(self, curves, window, heights, picture):
        board = filled(Board(), curves)
        with self.subTest((curves, window, heights)):
            self.assertEqual(board.picture(window, heights), picture)
            self.assertEqual(board.picture(window, heights), picture)
            self.assertEqual(picture_by_words(curves, window, heights), picture)

    def test_without_stores_and_without_samples(self):
        self.told({}, (0, 1, 3), (0, 1, 2), "...\n...\n")
        board = Board()
        board.store("a")
        board.store("b")
        self.assertEqual(board.picture((0, 1, 3), (0, 1, 2)), "...\n...\n")
        self.assertEqual(board.picture((5, 9, 1), (0, 1, 1)), ".\n")

    def test_one_curve(self):
        self.told({"q": ((0, 0), (3, 3))}, (0, 1, 4), (0, 1, 4), "..qq\n.qq.\nqq..\nq...\n")
        self.told({"qabc": ((0, 0), (3, 3))}, (0, 1, 4), (0, 2, 2), ".qqq\nqq..\n")

    def test_curves_over_each_other(self):
        rising, falling = ((0, 0), (4, 4)), ((0, 4), (4, 0))
        self.told({"b": rising, "a": falling}, (0, 1, 5), (0, 1, 5),
                  "a..bb\naabb.\n.aa..\nbbaa.\nb..aa\n")

    def test_the_least_name_is_seen(self):
        flat = ((0, 1), (3, 1))
        self.told({"z": flat, "b": ((1, 1),)}, (0, 1, 4), (0, 1, 3), "....\nzbzz\n....\n")
        self.told({"b": flat, "ab": ((1, 1),), "a": ((2, 1),)}, (0, 1, 4), (0, 1, 2), "baab\n....\n")
        self.told({"ba": flat, "b": ((1, 1),), "bab": ((2, 0),)}, (0, 1, 4), (0, 1, 2), "bbbb\n..b.\n")

    def test_the_least_name_whatever_came_first(self):
        for order in (("c", "aa", "b"), ("b", "c", "aa"), ("aa", "b", "c")):
            board = Board()
            for name in order:
                board.store(name).put(0, 0)
            self.assertEqual(board.picture((0, 1, 1), (0, 1, 1)), "a\n")
            board.store("aa").take(0)
            self.assertEqual(board.picture((0, 1, 1), (0, 1, 1)), "b\n")
            board.store("b").put(0, 1)
            self.assertEqual(board.picture((0, 1, 1), (0, 1, 2)), "b\nc\n")
            board.store("b").undo()
            board.store("aa").undo()
            self.assertEqual(board.picture((0, 1, 1), (0, 1, 2)), ".\na\n")

    def test_samples_outside_the_window_do_not_count(self):
        self.told({"a": ((-1, 0), (1, 1), (9, 5))}, (0, 1, 3), (0, 1, 2), ".a.\n...\n")

    def test_sixteen_names_by_chance(self):
        chance = random.Random(61)
        names = ("a", "ab", "abc", "b", "ba", "c", "cz", "m", "mm", "mmmmmmmm", "n", "x", "xy", "y", "z", "zzzzzzzz")
        for turn in range(60):
            board = Board()
            slow = {name: SlowStore() for name in chance.sample(names, chance.randrange(17))}
            for name in slow:
                board.store(name)
                for n in range(chance.choice((0, 1, 3, 12, 40))):
                    some_deed(chance, board.store(name), slow[name], lambda own: own.randrange(-40, 40), 20)
            curves = {name: slow[name].curve() for name in slow}
            for n in range(4):
                window = (chance.randrange(-60, 30), chance.randrange(1, 12), chance.randrange(1, 13))
                heights = (chance.randrange(-24, 12), chance.randrange(1, 6), chance.randrange(1, 13))
                self.assertEqual(board.picture(window, heights), picture_by_words(curves, window, heights))
                self.assertEqual(board.kept(window), kept_by_words(curves, window))
                self.assertLessEqual(board.kept(window), 4 * window[2] * len(slow))
            self.assertEqual(board.names(), sorted(slow))

    def test_great_windows_and_heights(self):
        chance = random.Random(62)
        curves = {"far": ((-END, -SIXTY), (0, 5), (END - 1, SIXTY)), "few": ((-END, 7), (-2, 7)), "none": ()}
        board = filled(Board(), curves)
        for window in JUST_WITHIN + tuple(some_window(chance) for n in range(20)):
            for heights in ((-SIXTY, SIXTY // 6, 12), (0, 1, 12), (-5, SIXTY, 3)):
                with self.subTest((window, heights)):
                    self.assertEqual(board.picture(window, heights), picture_by_words(curves, window, heights))


class Kept(unittest.TestCase):
    def test_each_sample_of_a_curve_once(self):
        curves = {"a": ((0, 0), (1, 3), (2, -3), (3, 1), (4, 1), (5, 5))}
        board = filled(Board(), curves)
        for window, kept in (((0, 6, 1), 3), ((0, 5, 1), 4), ((0, 4, 1), 4), ((0, 4, 2), 6), ((0, 1, 3), 3),
                             ((1, 2, 2), 4), ((9, 1, 3), 0), ((3, 2, 1), 2), ((0, 3, 1), 3), ((-9, 9, 1), 0)):
            with self.subTest(window):
                self.assertEqual(kept_by_words(curves, window), kept)
                self.assertEqual(board.kept(window), kept)
                self.assertEqual(board.kept(window), kept)
                self.assertIs(type(board.kept(window)), int)

    def test_each_curve_by_itself(self):
        same = ((0, 0), (1, 1))
        board = filled(Board(), {"a": same, "b": same, "ab": ((0, 0),)})
        board.store("c")
        self.assertEqual(board.kept((0, 2, 1)), 5)
        self.assertEqual(board.kept((0, 1, 1)), 3)
        board.store("b").take(0)
        self.assertEqual(board.kept((0, 2, 1)), 4)
        board.store("b").undo()
        self.assertEqual(board.kept((0, 2, 1)), 5)

    def test_nothing(self):
        board = Board()
        self.assertEqual(board.kept((0, 2, 1)), 0)
        board.store("a")
        self.assertEqual(board.kept((0, 2, 1)), 0)


class Refusals(unittest.TestCase):
    def test_windows_with_other_times(self):
        for curves in ({}, {"a": ()}, {"a": ((0, 0),), "b": ((-END, 0), (END - 1, 0))}):
            board = filled(Board(), curves)
            for window in OUTSIDE:
                with self.subTest((curves, window)):
                    self.assertRaises(OutOfTimes, board.picture, window, (0, 1, 2))
                    self.assertRaises(OutOfTimes, board.kept, window)
            for window in JUST_WITHIN:
                with self.subTest((curves, window)):
                    self.assertEqual(board.picture(window, (0, 1, 2)), picture_by_words(curves, window, (0, 1, 2)))
                    self.assertEqual(board.kept(window), kept_by_words(curves, window))
            self.assertEqual(board.names(), sorted(curves))


class Parting(unittest.TestCase):
    def check(self, window, k, part):
        told = parting(window, k, part)
        self.assertIs(type(told), tuple)
        self.assertEqual(len(told), 2)
        curve, heights = told
        self.assertIs(is_curve(curve), True)
        self.assertIs(is_heights(heights), True)
        self.assertLessEqual(heights[2], 200)
        begin, wide, many = window
        self.assertTrue(all(begin <= t < begin + many * wide for t, h in curve))
        four = four_by_words([s for s in curve if begin + k * wide <= s[0] < begin + (k + 1) * wide])
        self.assertEqual(len(set(four)), 4)
        without = tuple(s for s in curve if s != four[part])
        self.assertNotEqual(dots_by_words(curve, window, heights), dots_by_words(without, window, heights))
        self.assertEqual(parting(window, k, part), told)

    def due(self, window, k, part):
        return (part == 0 and k == 0) or (part == 1 and k == window[2] - 1)

    def test_each_column_and_each_part(self):
        for begin in (0, 1, -1, -7, -30, 13, END, -END, 2 ** 40 - 20, SIXTY, -SIXTY, SIXTY - 3):
            for wide in (4, 5, 6, 7, 8, 9, 100, 2 ** 40, SIXTY):
                for many in (1, 2, 3, 12):
                    for k in range(many):
                        for part in range(4):
                            with self.subTest((begin, wide, many, k, part)):
                                if self.due((begin, wide, many), k, part):
                                    self.assertRaises(NotApart, parting, (begin, wide, many), k, part)
                                else:
                                    self.check((begin, wide, many), k, part)

    def test_columns_that_are_too_narrow(self):
        for wide in (1, 2, 3):
            for k in range(3):
                for part in range(4):
                    with self.subTest((wide, k, part)):
                        with self.assertRaises(NotApart) as caught:
                            parting((-4, wide, 3), k, part)
                        self.assertIsInstance(caught.exception, FourPointsError)

    def test_what_is_no_part(self):
        for part in (-1, 4, 5, -4, SIXTY, -SIXTY, True, False, None, "", "0", "first", (), (0,), [], [2], {}, {2}, b"2",
                     object(), int):
            with self.subTest(repr(part)):
                self.assertRaises(NotApart, parting, (0, 4, 3), 1, part)

    def test_what_is_no_column(self):
        for k in (-1, 3, 4, -3, SIXTY, -SIXTY, True, False, None, "", "0", (), (0,), [], [1], {}, {1}, b"1", object(),
                  int):
            for part in range(4):
                with self.subTest(repr((k, part))):
                    self.assertRaises(NoColumn, parting, (0, 4, 3), k, part)

    def test_where_several_refusals_are_due(self):
        for window, k, part in (((0, 3, 3), 3, 0), ((0, 4, 3), -1, 4), ((0, 1, 1), "k", "part")):
            with self.subTest((window, k, part)):
                self.assertRaises((NoColumn, NotApart), parting, window, k, part)


if __name__ == "__main__":
    unittest.main()
