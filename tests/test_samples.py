import inspect
import itertools
import re
import unittest

from fourpoints import samples
from fourpoints.errors import FourPointsError, NoText
from fourpoints.samples import curve_of, curve_text, is_curve, part_of, read_curve

SIXTY = 10 ** 60 - 1
CURVES = (
    (),
    ((0, 0),),
    ((-3, -7), (0, 0), (5, 2)),
    ((-SIXTY, SIXTY), (0, -SIXTY), (SIXTY, 0)),
    tuple((7 * n - 4000, (n * n) % 101 - 50) for n in range(1200)),
)


class Interface(unittest.TestCase):
    def test_names_and_arguments(self):
        asked = {"is_curve": ["thing"], "curve_of": ["samples"], "part_of": ["curve", "begin", "end"],
                 "curve_text": ["curve"], "read_curve": ["text"]}
        for name, arguments in asked.items():
            with self.subTest(name):
                self.assertEqual(list(inspect.signature(getattr(samples, name)).parameters), arguments)


class IsCurve(unittest.TestCase):
    def test_curves(self):
        for curve in CURVES + (((1, 5), (2, 5)), ((-2, 0), (-1, 0))):
            with self.subTest(repr(curve)[:60]):
                self.assertIs(is_curve(curve), True)
                self.assertIs(is_curve(curve), True)

    def test_things_that_are_none(self):
        things = (
            [], [(0, 1)], [(0, 1), (1, 2)],
            ((1, 0), (0, 0)), ((0, 0), (2, 0), (1, 0)), ((-1, 0), (-2, 0)),
            ((0, 1), (0, 2)), ((0, 2), (0, 1)), ((0, 1), (0, 1)),
            ([0, 1],), ((0, 0), [1, 1]), ((0,),), ((0, 1, 2),), ((),), ((0, 0), ()),
            ((True, 0),), ((0, False),), ((0, True), (1, 1)), ((False, 0), (1, 0)), ((0, 0), (1, 0), (True, 0)),
            (("0", 1),), ((0, "1"),), ((None, 0),), ((0, None),), (((0,), 1),),
            (0, 1), ("01",), (None,), (True, False), ({0: 1},),
            None, True, False, 0, 7, "", "0 0\n", {}, {(0, 1): 2}, set(), object(), int, is_curve,
        )
        for thing in things:
            with self.subTest(repr(thing)):
                self.assertIs(is_curve(thing), False)


class CurveOf(unittest.TestCase):
    def test_any_order(self):
        curve = ((-3, 9), (0, 4), (2, 4), (11, -1))
        for row in itertools.permutations(curve):
            with self.subTest(row):
                self.assertEqual(curve_of(row), curve)
                self.assertEqual(curve_of(list(row)), curve)

    def test_the_last_of_one_time_counts(self):
        self.assertEqual(curve_of([(1, 5), (0, 0), (1, 9), (1, 2)]), ((0, 0), (1, 2)))
        self.assertEqual(curve_of(((1, 2), (1, 5))), ((1, 5),))
        self.assertEqual(curve_of(((1, 5), (1, 2))), ((1, 2),))
        self.assertEqual(curve_of([(4, 4), (4, 4)]), ((4, 4),))
        self.assertEqual(curve_of([(2, 1), (2, 3), (-SIXTY, 0), (2, 2), (-SIXTY, -1)]), ((-SIXTY, -1), (2, 2)))

    def test_empty(self):
        self.assertEqual(curve_of([]), ())
        self.assertEqual(curve_of(()), ())

    def test_a_curve_is_its_own(self):
        for curve in CURVES:
            self.assertEqual(curve_of(curve), curve)
            self.assertIs(is_curve(curve_of(list(reversed(curve)))), True)

    def test_the_list_stays_and_has_no_later_bearing(self):
        handed = [(3, 1), (1, 2), (3, 0)]
        curve = curve_of(handed)
        self.assertEqual(handed, [(3, 1), (1, 2), (3, 0)])
        self.assertEqual(curve_of(handed), curve)
        handed.append((5, 5))
        handed[0] = (9, 9)
        self.assertEqual(curve, ((1, 2), (3, 0)))
        self.assertEqual(curve_of([(3, 1), (1, 2), (3, 0)]), curve)


class PartOf(unittest.TestCase):
    curve = ((-4, 1), (0, 2), (3, 3), (4, 4), (9, 5))

    def test_on_a_time_and_beside_it(self):
        for begin, end, part in (
            (0, 4, ((0, 2), (3, 3))),
            (0, 5, ((0, 2), (3, 3), (4, 4))),
            (1, 4, ((3, 3),)),
            (-1, 3, ((0, 2),)),
            (-4, 10, curve_of(self.curve)),
            (-4, 9, self.curve[:-1]),
            (-3, 10, self.curve[1:]),
            (5, 9, ()),
            (3, 4, ((3, 3),)),
            (-SIXTY, SIXTY, self.curve),
            (10, 20, ()),
            (-20, -4, ()),
        ):
            with self.subTest((begin, end)):
                self.assertEqual(part_of(self.curve, begin, end), part)

    def test_end_not_behind_begin(self):
        for begin, end in ((0, 0), (3, 3), (4, 0), (4, 3), (9, -4), (SIXTY, -SIXTY)):
            with self.subTest((begin, end)):
                self.assertEqual(part_of(self.curve, begin, end), ())

    def test_all_borders(self):
        for begin in range(-6, 12):
            for end in range(-6, 12):
                part = part_of(self.curve, begin, end)
                self.assertIs(is_curve(part), True)
                self.assertEqual(list(part), [sample for sample in self.curve if sample[0] in range(begin, end)])

    def test_of_the_empty_curve(self):
        self.assertEqual(part_of((), -5, 5), ())


class CurveText(unittest.TestCase):
    def test_texts(self):
        for curve, text in (
            ((), ""),
            (((0, 0),), "0 0\n"),
            (((-3, -7), (0, 0), (5, 20)), "-3 -7\n0 0\n5 20\n"),
            (((-10, 100),), "-10 100\n"),
            (((SIXTY, -SIXTY),), "9" * 60 + " -" + "9" * 60 + "\n"),
            (((10 ** 59, -10 ** 59),), "1" + "0" * 59 + " -1" + "0" * 59 + "\n"),
        ):
            with self.subTest(text):
                self.assertEqual(curve_text(curve), text)
                self.assertEqual(read_curve(text), curve)

    def test_there_and_back(self):
        for curve in CURVES:
            with self.subTest(repr(curve)[:60]):
                text = curve_text(curve)
                self.assertEqual(text.count("\n"), len(curve))
                told = read_curve(text)
                self.assertEqual(told, curve)
                self.assertIs(is_curve(told), True)
                self.assertEqual(curve_text(told), text)
                self.assertEqual(read_curve(text), told)

    def test_1200_samples_of_sixty_figures_and_less(self):
        curve = tuple((10 ** 30 * n - 10 ** 33, (-1) ** n * 10 ** (n % 30)) for n in range(1200))
        text = curve_text(curve)
        self.assertLessEqual(len(text), 80000)
        self.assertEqual(read_curve(text), curve)


class ReadCurve(unittest.TestCase):
    def refused(self, thing):
        with self.subTest(repr(thing)[:80]):
            with self.assertRaises(NoText):
                read_curve(thing)

    def test_numbers_written_otherwise(self):
        for word in ("00", "01", "-0", "-00", "-01", "007", "+1", "+0", "--1", "-", "", "1-", "1_0", "1.0", "1e3", "0x1",
                     "1,0", "a", "O", "~", "\t1", "1\t", "1\r", "\x0b1", "1\x0c", "1\x00",
                     "\u0661", "\u00b2", "\uff11", "1\u0661", "\u22121", "1\u00a0"):
            self.refused(f"{word} 5\n")
            self.refused(f"5 {word}\n")
            self.refused(f"-9 1\n{word} 5\n")
            self.refused(f"-9 1\n9 {word}\n")

    def test_blanks(self):
        for text in ("1  2\n", " 1 2\n", "1 2 \n", "12\n", "1 2 3\n", " \n", "1 \n", " 2\n", "1\t2\n", "1 2\n 3 4\n",
                     "1\n2\n", "- 1 2\n", "1\u00a02\n", "1 2\n ", " 1 2", "1 2 3 4\n", "1 -\n"):
            self.refused(text)

    def test_line_feeds(self):
        for text in ("1 2", "1 2\n3 4", "1 2\n\n", "\n1 2\n", "1 2\n\n3 4\n", "\n", "\n\n", "1 2\r\n", "1 2\r", "1 2\n\r",
                     "1 2\x0b", "1 2\x0b3 4\n", "1 2\u20283 4\n", "1 2\x1c", "1 \n2\n", "1 2 3 4\n", "1 2,3 4\n"):
            self.refused(text)

    def test_order(self):
        for text in ("1 0\n0 0\n", "0 1\n0 2\n", "0 1\n0 1\n", "0 0\n2 0\n1 0\n", "-1 0\n-2 0\n", "10 0\n9 0\n", "0 0\n-1 0\n"):
            self.refused(text)
        self.assertEqual(read_curve("9 0\n10 0\n"), ((9, 0), (10, 0)))
        self.assertEqual(read_curve("-2 0\n-1 0\n"), ((-2, 0), (-1, 0)))

    def test_things_that_are_no_text(self):
        for thing in (None, True, False, 0, 12, [], ["1 2\n"], (), ((1, 2),), {}, {"1 2\n": 1}, b"", b"1 2\n", object(), str):
            self.refused(thing)

    def test_the_refusal_is_one_of_the_program(self):
        with self.assertRaises(FourPointsError):
            read_curve("1")

    def test_every_short_text(self):
        number = "(?:0|-?[1-9][0-9]*)"
        form = re.compile(f"(?:{number} {number}\n)*")
        taken = 0
        for length in range(9):
            for signs in itertools.product("01- \n", repeat=length):
                text = "".join(signs)
                pairs = [line.split(" ") for line in text.split("\n")[:-1]] if form.fullmatch(text) else None
                if pairs is not None:
                    pairs = [(int(pair[0]), int(pair[1])) for pair in pairs]
                    if any(one[0] >= other[0] for one, other in zip(pairs, pairs[1:])):
                        pairs = None
                try:
                    told = read_curve(text)
                except NoText:
                    told = None
                if pairs is None:
                    self.assertIsNone(told, repr(text))
                else:
                    self.assertEqual(told, tuple(pairs), repr(text))
                    taken += 1
        self.assertGreater(taken, 30)

    def test_long_texts(self):
        # Python's own int refuses texts of some thousand figures; the document does not.
        self.assertEqual(read_curve("-" + "1" * 9000 + " 0\n"), ((-((10 ** 9000 - 1) // 9), 0),))
        self.refused("1" * 80000)
        self.refused("0" * 79997 + " 1\n")
        self.refused(" " * 80000)
        self.refused("\n" * 80000)


if __name__ == "__main__":
    unittest.main()
