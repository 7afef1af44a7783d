import inspect
import itertools
import random
import unittest

from by_words import SIXTY, dots_by_words
from fourpoints import dots
from fourpoints.dots import dots_by, dots_of, dots_text, is_heights
from fourpoints.fours import fours_of, kept_of


def some_case(chance):
    curve = tuple((t, chance.randrange(-30, 30)) for t in sorted(chance.sample(range(-60, 60), chance.randrange(61))))
    if chance.randrange(2):
        curve = curve[::chance.randrange(1, 12)]
    window = (chance.randrange(-90, 70), chance.randrange(1, 14), chance.randrange(1, 13))
    heights = (chance.randrange(-40, 35), chance.randrange(1, 9), chance.randrange(1, 13))
    return curve, window, heights


class Interface(unittest.TestCase):
    def test_names_and_arguments(self):
        asked = {"is_heights": ["thing"], "dots_of": ["curve", "window", "heights"],
                 "dots_by": ["fours", "window", "heights"], "dots_text": ["dots", "rows"]}
        for name, arguments in asked.items():
            with self.subTest(name):
                self.assertEqual(list(inspect.signature(getattr(dots, name)).parameters), arguments)


class IsHeights(unittest.TestCase):
    def test_heights(self):
        for heights in ((0, 1, 1), (-5, 3, 12), (SIXTY, 1, 2), (-SIXTY, SIXTY, SIXTY), (7, 2, 200)):
            with self.subTest(heights):
                self.assertIs(is_heights(heights), True)
                self.assertIs(is_heights(heights), True)

    def test_other_things(self):
        things = (
            (0, 0, 1), (0, 1, 0), (0, -1, 1), (0, 1, -1), (0, -SIXTY, 5), (5, 0, 0), (1, -1, -1),
            (), (0,), (0, 1), (0, 1, 1, 1), ((0, 1, 1),),
            [0, 1, 1], [], {0: 1, 1: 1, 2: 1}, "011", {1, 2, 3},
            (True, 1, 1), (False, 1, 1), (0, True, 1), (0, 1, True), (True, True, True),
            ("0", 1, 1), (0, "1", 1), (0, 1, "1"), (None, 1, 1), (0, None, 1), (0, 1, None), ((0,), 1, 1), (0, [1], 1),
            None, True, False, 0, 3, "", object(), int, is_heights,
        )
        for thing in things:
            with self.subTest(repr(thing)):
                self.assertIs(is_heights(thing), False)


class DotsOf(unittest.TestCase):
    def told(self, curve, window, heights, expected):
        with self.subTest((curve, window, heights)):
            self.assertEqual(dots_of(curve, window, heights), expected)
            self.assertEqual(dots_of(curve, window, heights), expected)
            self.assertEqual(dots_by_words(curve, window, heights), expected)

    def test_the_example_of_the_document(self):
        self.told(((0, 0), (1, 5)), (0, 1, 2), (0, 1, 6), ((0, 5), (5, 5)))

    def test_samples_by_themselves(self):
        self.told((), (0, 1, 3), (0, 1, 5), (None, None, None))
        self.told(((1, 3),), (0, 1, 3), (0, 1, 5), (None, (3, 3), None))
        self.told(((1, 3),), (0, 2, 2), (0, 2, 2), ((1, 1), None))
        self.told(((1, 4),), (0, 1, 3), (0, 2, 3), (None, (2, 2), None))
        self.told(((1, -4),), (0, 1, 3), (-5, 2, 3), (None, (0, 0), None))

    def test_pieces_across_several_columns(self):
        self.told(((0, 0), (4, 4)), (0, 1, 5), (0, 1, 6), ((0, 1), (1, 2), (2, 3), (3, 4), (4, 4)))
        self.told(((0, 4), (4, 0)), (0, 1, 5), (0, 1, 6), ((3, 4), (2, 3), (1, 2), (0, 1), (0, 0)))
        self.told(((1, 0), (9, 8)), (0, 3, 4), (0, 1, 9), ((0, 2), (2, 5), (5, 8), (8, 8)))
        self.told(((1, 7), (10, 7)), (0, 3, 4), (0, 1, 9), ((7, 7), (7, 7), (7, 7), (7, 7)))

    def test_columns_ahead_of_the_first_and_behind_the_last_sample(self):
        # The piece from 1 on does not begin before column 0's end, though it touches it.
        self.told(((1, 5), (2, 5)), (0, 1, 4), (0, 1, 6), (None, (5, 5), (5, 5), None))
        self.told(((4, 1), (5, 2)), (0, 2, 5), (0, 1, 6), (None, None, (1, 2), None, None))

    def test_heights_met_just_at_a_columns_end(self):
        self.told(((0, 0), (2, 3), (3, 3)), (0, 2, 2), (0, 1, 4), ((0, 3), (3, 3)))
        self.told(((0, 0), (2, 3)), (0, 2, 2), (3, 1, 1), ((0, 0), (0, 0)))
        self.told(((0, 0), (2, -3)), (0, 2, 2), (-3, 1, 1), ((0, 0), (0, 0)))
        # Back where the column begins a piece that ended there is met no more.
        self.told(((1, 9), (2, 0), (3, 0)), (0, 2, 2), (0, 1, 10), ((0, 9), (0, 0)))
        self.told(((1, 9), (3, 1), (4, 1)), (0, 2, 3), (0, 1, 10), ((5, 9), (1, 5), (1, 1)))

    def test_broken_heights(self):
        self.told(((0, 0), (2, 1)), (0, 1, 3), (0, 1, 2), ((0, 0), (0, 1), (1, 1)))
        self.told(((0, 0), (2, -1)), (0, 1, 3), (-1, 1, 2), ((0, 1), (0, 0), (0, 0)))
        self.told(((0, 1), (2, 0)), (0, 1, 3), (0, 1, 2), ((0, 1), (0, 0), (0, 0)))
        self.told(((0, 0), (3, 10)), (0, 1, 4), (0, 1, 12), ((0, 3), (3, 6), (6, 10), (10, 10)))
        self.told(((0, 0), (3, -10)), (0, 1, 4), (-10, 1, 12), ((6, 10), (3, 6), (0, 3), (0, 0)))
        self.told(((0, -1), (7, 1)), (0, 1, 8), (-1, 1, 3),
                  ((0, 0), (0, 0), (0, 0), (0, 1), (1, 1), (1, 1), (1, 2), (2, 2)))

    def test_at_borders_of_rows(self):
        self.told(((0, 0), (2, 8)), (0, 1, 3), (0, 4, 3), ((0, 1), (1, 2), (2, 2)))
        self.told(((0, 0), (2, 6)), (0, 1, 3), (0, 4, 3), ((0, 0), (0, 1), (1, 1)))
        self.told(((0, 3), (1, 4)), (0, 1, 2), (0, 4, 2), ((0, 1), (1, 1)))
        self.told(((0, 4), (1, 3)), (0, 1, 2), (0, 4, 2), ((0, 1), (0, 0)))
        # Half a height below the border, and just on it.
        self.told(((0, 0), (2, 7)), (0, 1, 3), (4, 1, 9), (None, (0, 3), (3, 3)))
        self.told(((0, 0), (2, 8)), (0, 1, 3), (4, 1, 9), ((0, 0), (0, 4), (4, 4)))

    def test_samples_outside_the_window(self):
        self.told(((-1, 9), (0, 0), (3, 0), (4, 9)), (0, 1, 4), (0, 1, 10), ((0, 0),) * 4)
        self.told(((-5, 2), (9, 2)), (0, 1, 4), (0, 1, 10), (None,) * 4)
        self.told(((-5, 2), (1, 3), (9, 2)), (0, 1, 4), (0, 1, 10), (None, (3, 3), None, None))
        self.told(((0, 1), (4, 9)), (0, 2, 2), (0, 1, 10), ((1, 1), None))
        self.told(((-1, 9), (2, 1)), (0, 2, 2), (0, 1, 10), (None, (1, 1)))

    def test_rows_above_and_below_all_heights(self):
        curve = ((0, 0), (2, 4), (5, -4))
        self.told(curve, (0, 2, 3), (5, 1, 12), (None,) * 3)
        self.told(curve, (0, 2, 3), (-16, 1, 12), (None,) * 3)
        self.told(curve, (0, 2, 3), (-17, 4, 3), (None,) * 3)
        self.told(curve, (0, 2, 3), (-4, 1, 9), ((4, 8), (2, 8), (0, 2)))
        self.told(curve, (0, 2, 3), (4, 1, 12), ((0, 0), (0, 0), None))
        self.told(curve, (0, 2, 3), (-15, 1, 12), (None, None, (11, 11)))
        self.told(curve, (0, 2, 3), (-1, 1, 2), ((1, 1), (0, 1), None))
        self.told(curve, (0, 2, 3), (-2, 1, 2), (None, (0, 1), (0, 0)))
        self.told(curve, (0, 2, 3), (-SIXTY, 2 * SIXTY, 1), ((0, 0),) * 3)
        self.told(curve, (0, 2, 3), (SIXTY, SIXTY, 12), (None,) * 3)

    def test_sixty_figures_exactly(self):
        third = SIXTY // 3
        curve = ((0, 0), (3, SIXTY))
        self.told(curve, (0, 1, 4), (third, 1, 2), ((0, 0), (0, 1), None, None))
        self.told(curve, (0, 1, 4), (third + 1, 1, 2), (None, (0, 1), None, None))
        self.told(curve, (0, 1, 4), (SIXTY, 1, 1), (None, None, (0, 0), (0, 0)))
        self.told(((0, 0), (3, SIXTY - 1)), (0, 1, 4), (third, 1, 1), (None, (0, 0), None, None))
        self.told(((0, 0), (3, SIXTY - 1)), (0, 1, 4), (third - 1, 1, 2), ((0, 0), (0, 1), None, None))
        self.told(((-SIXTY, -SIXTY), (SIXTY, SIXTY)), (-SIXTY, SIXTY, 3), (-1, 1, 3), ((0, 1), (1, 2), None))
        self.told(((-SIXTY, -SIXTY), (SIXTY - 1, SIXTY)), (-SIXTY, SIXTY, 2), (0, 1, 2), ((0, 0), (0, 1)))
        self.told(((-SIXTY, -SIXTY), (SIXTY - 2, SIXTY - 3)), (-SIXTY, SIXTY, 2), (-1, 1, 1), ((0, 0), (0, 0)))

    def test_sixty_figures_by_the_words(self):
        chance = random.Random(21)
        for turn in range(200):
            wide = chance.randrange(1, SIXTY // 6)
            begin = chance.randrange(-SIXTY // 2, SIXTY // 2)
            many = chance.randrange(1, 13)
            curve = tuple((t, chance.randrange(-SIXTY, SIXTY)) for t in
                          sorted({chance.randrange(begin - wide, begin + (many + 1) * wide) for n in range(6)}))
            h = chance.choice(curve)[1]
            heights = (chance.choice((h, h - 1, h + 1, -SIXTY)), chance.choice((1, 2, SIXTY // 7)), 12)
            self.assertEqual(dots_of(curve, (begin, wide, many), heights),
                             dots_by_words(curve, (begin, wide, many), heights), (curve, begin, wide, many, heights))

    def test_by_the_words(self):
        chance = random.Random(22)
        for turn in range(1500):
            curve, window, heights = some_case(chance)
            told = dots_of(curve, window, heights)
            self.assertEqual(told, dots_by_words(curve, window, heights), (curve, window, heights))
            self.assertIs(type(told), tuple)
            self.assertEqual(len(told), window[2])

    def test_all_small_curves(self):
        for many in range(5):
            for heights in itertools.product((-2, 0, 1), repeat=many):
                for times in itertools.combinations(range(6), many):
                    curve = tuple(zip(times, heights))
                    for window in ((0, 2, 3), (1, 1, 4), (-1, 3, 2)):
                        self.assertEqual(dots_of(curve, window, (-1, 1, 3)),
                                         dots_by_words(curve, window, (-1, 1, 3)), (curve, window))


class DotsBy(unittest.TestCase):
    def test_by_the_words(self):
        curve = ((0, 2), (1, 9), (2, -3), (3, 4), (4, 3), (5, 1), (8, 6))
        self.assertEqual(dots_by(fours_of(curve, (0, 6, 2)), (0, 6, 2), (-4, 2, 12)), ((0, 6), (3, 5)))
        self.assertEqual(dots_by((None, None), (0, 6, 2), (-4, 2, 12)), (None, None))
        self.assertEqual(dots_by((None, ((7, 1),) * 4), (0, 6, 2), (0, 1, 2)), (None, (1, 1)))

    def test_the_dots_of_the_kept_are_the_dots_of_all(self):
        chance = random.Random(23)
        spared = 0
        for turn in range(1500):
            curve, window, heights = some_case(chance)
            fours = fours_of(curve, window)
            told = dots_by(fours, window, heights)
            self.assertEqual(told, dots_of(curve, window, heights), (curve, window, heights))
            self.assertEqual(told, dots_of(kept_of(fours), window, heights))
            self.assertEqual(dots_by(fours, window, heights), told)
            spared += len(kept_of(fours)) < len(curve)
        self.assertGreater(spared, 500)

    def test_sixty_figures(self):
        chance = random.Random(24)
        for turn in range(100):
            curve = tuple((t, chance.randrange(-SIXTY, SIXTY)) for t in
                          sorted({chance.randrange(-SIXTY, SIXTY) for n in range(60)}))
            window = (-SIXTY // 2, SIXTY // chance.randrange(6, 30), 12)
            heights = (-SIXTY // 2, SIXTY // chance.randrange(6, 30), 12)
            self.assertEqual(dots_by(fours_of(curve, window), window, heights), dots_of(curve, window, heights))


class DotsText(unittest.TestCase):
    def test_line_by_line(self):
        for some, rows, text in (
            ((None,), 1, ".\n"),
            (((0, 0),), 1, "#\n"),
            ((None,), 3, ".\n.\n.\n"),
            (((1, 1),), 3, ".\n#\n.\n"),
            (((0, 1),), 3, ".\n#\n#\n"),
            (((2, 2),), 3, "#\n.\n.\n"),
            (((0, 5), (5, 5)), 6, "##\n#.\n#.\n#.\n#.\n#.\n"),
            (((0, 1), None, (1, 3), (2, 2)), 4, "..#.\n..##\n#.#.\n#...\n"),
            ((None, (0, 0), None), 2, "...\n.#.\n"),
        ):
            with self.subTest((some, rows)):
                self.assertEqual(dots_text(some, rows), text)
                self.assertEqual(dots_text(some, rows), text)

    def test_two_hundred_columns_and_rows(self):
        some = tuple(None if k % 7 == 3 else (k // 2, k // 2 + (k * k) % 50) for k in range(200))
        text = dots_text(some, 200)
        self.assertEqual(len(text), 200 * 201)
        self.assertTrue(text.endswith("\n"))
        lines = text.split("\n")[:-1]
        self.assertEqual(len(lines), 200)
        for number, line in enumerate(lines):
            row = 199 - number
            self.assertEqual(len(line), 200)
            for k, sign in enumerate(line):
                has = some[k] is not None and row in range(some[k][0], some[k][1] + 1)
                self.assertEqual(sign, "#" if has else ".", (row, k))

    def test_the_dots_of_a_curve(self):
        told = dots_of(((0, 0), (4, 4), (6, 0)), (0, 2, 4), (0, 1, 5))
        self.assertEqual(dots_text(told, 5), ".##.\n.##.\n###.\n#.#.\n#.##\n")


if __name__ == "__main__":
    unittest.main()
