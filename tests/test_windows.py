import inspect
import itertools
import unittest

from fourpoints import windows
from fourpoints.errors import FourPointsError, NoColumn, NotHalf
from fourpoints.windows import (
    column_of, is_window, moved, narrowed, shared, times_of, widened, with_columns)

SIXTY = 10 ** 60 - 1
WINDOWS = (
    (0, 1, 1), (0, 4, 3), (-7, 3, 5), (5, 1, 200), (-1, 2, 2), (100, 7, 12),
    (-SIXTY, SIXTY, 200), (SIXTY, 1, 1), (-2 ** 40, 2 ** 41, 1),
)


class Interface(unittest.TestCase):
    def test_names_and_arguments(self):
        asked = {"is_window": ["thing"], "column_of": ["window", "t"], "times_of": ["window", "k"],
                 "moved": ["window", "c"], "widened": ["window"], "narrowed": ["window"],
                 "with_columns": ["window", "n"], "shared": ["one", "other"]}
        for name, arguments in asked.items():
            with self.subTest(name):
                self.assertEqual(list(inspect.signature(getattr(windows, name)).parameters), arguments)


class IsWindow(unittest.TestCase):
    def test_windows(self):
        for window in WINDOWS:
            with self.subTest(window):
                self.assertIs(is_window(window), True)
                self.assertIs(is_window(window), True)

    def test_other_things(self):
        things = (
            (0, 0, 1), (0, 1, 0), (0, -1, 1), (0, 1, -1), (0, -SIXTY, 5), (5, 0, 0),
            (), (0,), (0, 1), (0, 1, 1, 1), ((0, 1, 1),),
            [0, 1, 1], [], {0: 1, 1: 1, 2: 1}, "011", {1, 2, 3},
            (True, 1, 1), (False, 1, 1), (0, True, 1), (0, 1, True),
            ("0", 1, 1), (0, "1", 1), (0, 1, "1"), (None, 1, 1), (0, None, 1), (0, 1, None), ((0,), 1, 1), (0, [1], 1),
            None, True, False, 0, 3, "", object(), int, is_window,
        )
        for thing in things:
            with self.subTest(repr(thing)):
                self.assertIs(is_window(thing), False)


class Columns(unittest.TestCase):
    def test_first_and_last_times_of_each_column(self):
        for window in WINDOWS:
            begin, wide, many = window
            with self.subTest(window):
                for k in range(many):
                    first = begin + k * wide
                    self.assertEqual(times_of(window, k), (first, first + wide))
                    self.assertEqual(column_of(window, first), k)
                    self.assertEqual(column_of(window, first + wide - 1), k)
                    self.assertEqual(column_of(window, first + wide // 2), k)

    def test_just_beside_the_window(self):
        for window in WINDOWS:
            begin, wide, many = window
            with self.subTest(window):
                self.assertIsNone(column_of(window, begin - 1))
                self.assertIsNone(column_of(window, begin - wide))
                self.assertIsNone(column_of(window, begin + many * wide))
                self.assertIsNone(column_of(window, begin + many * wide + wide))

    def test_by_the_words(self):
        self.assertEqual([column_of((10, 4, 3), t) for t in range(8, 24)],
                         [None] * 2 + [0] * 4 + [1] * 4 + [2] * 4 + [None] * 2)
        self.assertEqual([column_of((-5, 3, 2), t) for t in range(-7, 3)],
                         [None] * 2 + [0] * 3 + [1] * 3 + [None] * 2)
        self.assertEqual(times_of((10, 4, 3), 0), (10, 14))
        self.assertEqual(times_of((10, 4, 3), 2), (18, 22))
        self.assertEqual(times_of((-5, 3, 2), 1), (-2, 1))
        self.assertIsNone(column_of((10, 4, 3), SIXTY))
        self.assertIsNone(column_of((10, 4, 3), -SIXTY))
        self.assertIs(type(column_of((0, 1, 2), 0)), int)
        self.assertIs(type(times_of((0, 1, 2), 0)), tuple)

    def test_no_columns_number(self):
        for window in WINDOWS:
            many = window[2]
            for k in (-1, -many, many, many + 1, SIXTY, -SIXTY, True, False, None, "", "0", "1", (), (0,), [], [0], {},
                      b"0", object(), int):
                with self.subTest((window, repr(k))):
                    with self.assertRaises(NoColumn):
                        times_of(window, k)
        with self.assertRaises(FourPointsError):
            times_of((0, 1, 1), 1)


class Steps(unittest.TestCase):
    def test_moved(self):
        self.assertEqual(moved((10, 4, 3), 1), (14, 4, 3))
        self.assertEqual(moved((10, 4, 3), 5), (30, 4, 3))
        self.assertEqual(moved((10, 4, 3), 0), (10, 4, 3))
        self.assertEqual(moved((10, 4, 3), -1), (6, 4, 3))
        self.assertEqual(moved((10, 4, 3), -10), (-30, 4, 3))
        self.assertEqual(moved((0, 1, 1), SIXTY), (SIXTY, 1, 1))

    def test_moved_on_and_back(self):
        for window in WINDOWS:
            for c in (0, 1, -1, 7, -12, SIXTY, -SIXTY):
                with self.subTest((window, c)):
                    self.assertIs(is_window(moved(window, c)), True)
                    self.assertEqual(moved(moved(window, c), -c), window)

    def test_widened(self):
        self.assertEqual(widened((10, 4, 3)), (10, 8, 3))
        self.assertEqual(widened((-3, 1, 1)), (-3, 2, 1))
        self.assertEqual(widened((0, SIXTY, 200)), (0, 2 * SIXTY, 200))

    def test_narrowed(self):
        self.assertEqual(narrowed((10, 4, 3)), (10, 2, 3))
        self.assertEqual(narrowed((-3, 2, 1)), (-3, 1, 1))
        self.assertEqual(narrowed((5, 6, 7)), (5, 3, 7))
        self.assertEqual(narrowed((0, 10 ** 59, 2)), (0, 5 * 10 ** 58, 2))
        for window in WINDOWS:
            self.assertEqual(narrowed(widened(window)), window)

    def test_narrowed_where_wide_is_odd(self):
        for wide in (1, 3, 5, 99, SIXTY):
            for begin, many in ((0, 1), (2, 2), (-4, 6)):
                with self.subTest((begin, wide, many)):
                    with self.assertRaises(NotHalf):
                        narrowed((begin, wide, many))
        with self.assertRaises(FourPointsError):
            narrowed((0, 1, 1))

    def test_with_columns(self):
        self.assertEqual(with_columns((10, 4, 3), 1), (10, 4, 1))
        self.assertEqual(with_columns((10, 4, 3), 3), (10, 4, 3))
        self.assertEqual(with_columns((-10, 5, 1), 200), (-10, 5, 200))


class Shared(unittest.TestCase):
    def looked_up(self, one, other):
        return tuple((k, j) for k in range(one[2]) for j in range(other[2]) if times_of(one, k) == times_of(other, j))

    def test_by_the_words(self):
        for one, other, pairs in (
            ((0, 2, 3), (0, 2, 3), ((0, 0), (1, 1), (2, 2))),
            ((0, 2, 3), (2, 2, 3), ((1, 0), (2, 1))),
            ((2, 2, 3), (0, 2, 3), ((0, 1), (1, 2))),
            ((0, 2, 5), (4, 2, 1), ((2, 0),)),
            ((4, 2, 1), (0, 2, 5), ((0, 2),)),
            ((0, 2, 3), (1, 2, 3), ()),
            ((1, 2, 3), (0, 2, 3), ()),
            ((0, 2, 3), (0, 4, 3), ()),
            ((0, 4, 3), (0, 2, 3), ()),
            ((0, 2, 3), (0, 3, 3), ()),
            ((0, 2, 3), (6, 2, 3), ()),
            ((6, 2, 3), (0, 2, 3), ()),
            ((0, 2, 3), (4, 2, 3), ((2, 0),)),
            ((-6, 3, 4), (0, 3, 4), ((2, 0), (3, 1))),
            ((0, 2, 3), (2 * SIXTY, 2, 3), ()),
            ((-SIXTY, 1, 200), (SIXTY, 1, 200), ()),
            ((SIXTY, SIXTY, 3), (2 * SIXTY, SIXTY, 3), ((1, 0), (2, 1))),
        ):
            with self.subTest((one, other)):
                self.assertEqual(shared(one, other), pairs)
                self.assertEqual(shared(one, other), pairs)
                self.assertEqual(shared(other, one), tuple((j, k) for k, j in pairs))

    def test_two_hundred_columns(self):
        self.assertEqual(shared((0, 5, 200), (5, 5, 200)), tuple((k, k - 1) for k in range(1, 200)))
        self.assertEqual(shared((5, 5, 200), (0, 5, 200)), tuple((k, k + 1) for k in range(199)))

    def test_all_small_windows(self):
        small = list(itertools.product(range(-4, 5), range(1, 4), range(1, 5)))
        for one in small:
            for other in small:
                pairs = shared(one, other)
                self.assertEqual(pairs, self.looked_up(one, other), (one, other))
                self.assertIs(type(pairs), tuple)
                self.assertEqual(list(pairs), sorted(pairs))


if __name__ == "__main__":
    unittest.main()
