import inspect
import itertools
import random
import unittest

from by_words import SIXTY, four_by_words
from fourpoints import fours
from fourpoints.fours import four_of, fours_of, joined, kept_of
from fourpoints.samples import is_curve, part_of
from fourpoints.windows import times_of


def some_curve(chance, many, times=60, heights=5):
    begin = chance.randrange(-times, times)
    return tuple((t, chance.randrange(-heights, heights)) for t in
                 sorted(chance.sample(range(begin, begin + 2 * times), many)))


class Interface(unittest.TestCase):
    def test_names_and_arguments(self):
        asked = {"four_of": ["curve"], "joined": ["one", "other"], "fours_of": ["curve", "window"],
                 "kept_of": ["fours"]}
        for name, arguments in asked.items():
            with self.subTest(name):
                self.assertEqual(list(inspect.signature(getattr(fours, name)).parameters), arguments)


class FourOf(unittest.TestCase):
    def test_none_and_one(self):
        self.assertIsNone(four_of(()))
        self.assertEqual(four_of(((3, -5),)), ((3, -5),) * 4)
        self.assertEqual(four_of(((-SIXTY, SIXTY),)), ((-SIXTY, SIXTY),) * 4)

    def test_by_the_words(self):
        for curve, four in (
            (((0, 4), (1, 9), (2, -3), (3, 4)), ((0, 4), (3, 4), (2, -3), (1, 9))),
            (((0, 1), (1, 2)), ((0, 1), (1, 2), (0, 1), (1, 2))),
            (((0, 2), (1, 1)), ((0, 2), (1, 1), (1, 1), (0, 2))),
            (((-9, 0), (-4, -SIXTY), (7, SIXTY), (8, 1)), ((-9, 0), (8, 1), (-4, -SIXTY), (7, SIXTY))),
            # The outermost heights are told as numbers, not as texts or sizes.
            (((0, 9), (1, 10), (2, -10), (3, -9)), ((0, 9), (3, -9), (2, -10), (1, 10))),
        ):
            with self.subTest(curve):
                self.assertEqual(four_of(curve), four)
                self.assertEqual(four_of(curve), four)
                self.assertIs(type(four_of(curve)), tuple)

    def test_of_several_the_earliest(self):
        self.assertEqual(four_of(((0, 5), (1, 5), (2, 5))), ((0, 5), (2, 5), (0, 5), (0, 5)))
        self.assertEqual(four_of(((0, 1), (1, 0), (2, 0), (3, 2), (4, 2), (5, 1))),
                         ((0, 1), (5, 1), (1, 0), (3, 2)))
        self.assertEqual(four_of(((0, 2), (1, 0), (2, 2), (3, 0))), ((0, 2), (3, 0), (1, 0), (0, 2)))

    def test_all_small_curves(self):
        for many in range(6):
            for heights in itertools.product((-1, 0, 1), repeat=many):
                curve = tuple((3 * n - 4, heights[n]) for n in range(many))
                self.assertEqual(four_of(curve), four_by_words(curve), curve)

    def test_two_thousand_samples(self):
        curve = tuple((3 * n - 3000, (n * n) % 1009 - 500) for n in range(2000))
        heights = [h for t, h in curve]
        four = four_of(curve)
        self.assertEqual(four[:2], (curve[0], curve[-1]))
        self.assertEqual(four[2], curve[heights.index(min(heights))])
        self.assertEqual(four[3], curve[heights.index(max(heights))])
        self.assertGreater(heights.count(max(heights)), 1)


class Joined(unittest.TestCase):
    def test_with_none(self):
        four = ((0, 1), (3, 2), (1, 0), (2, 9))
        self.assertIsNone(joined(None, None))
        self.assertEqual(joined(None, four), four)
        self.assertEqual(joined(four, None), four)

    def test_the_earlier_of_equal_ones(self):
        one = four_of(((0, 5), (1, 7), (2, 3)))
        other = four_of(((3, 3), (4, 7)))
        self.assertEqual(joined(one, other), ((0, 5), (4, 7), (2, 3), (1, 7)))

    def test_every_cut_of_small_curves(self):
        for many in range(6):
            for heights in itertools.product((0, 1, 2), repeat=many):
                curve = tuple((2 * n - 5, heights[n]) for n in range(many))
                for cut in range(many + 1):
                    told = joined(four_of(curve[:cut]), four_of(curve[cut:]))
                    self.assertEqual(told, four_by_words(curve), (curve, cut))

    def test_sixty_figures(self):
        curve = ((-SIXTY, 1), (-SIXTY + 1, -SIXTY), (0, SIXTY), (SIXTY, SIXTY - 1))
        for cut in range(5):
            self.assertEqual(joined(four_of(curve[:cut]), four_of(curve[cut:])),
                             (curve[0], curve[3], curve[1], curve[2]))


class FoursOf(unittest.TestCase):
    curve = ((-4, 1), (0, 2), (3, 3), (4, 4), (5, 0), (7, 9), (9, 5), (12, 5))

    def test_by_the_words(self):
        self.assertEqual(fours_of(self.curve, (0, 4, 3)), (
            ((0, 2), (3, 3), (0, 2), (3, 3)), ((4, 4), (7, 9), (5, 0), (7, 9)), ((9, 5),) * 4))
        self.assertEqual(fours_of(self.curve, (1, 2, 2)), (None, ((3, 3), (4, 4), (3, 3), (4, 4))))
        self.assertEqual(fours_of(self.curve, (5, 4, 1)), (((5, 0), (7, 9), (5, 0), (7, 9)),))
        self.assertEqual(fours_of(self.curve, (-4, 4, 1)), (((-4, 1),) * 4,))
        self.assertEqual(fours_of(self.curve, (-5, 1, 3)), (None, ((-4, 1),) * 4, None))

    def test_beside_and_far_from_the_curve(self):
        for window in ((-8, 2, 2), (13, 1, 200), (-SIXTY, 1, 5), (SIXTY, SIXTY, 3), (-3, 1, 3), (10, 1, 2)):
            with self.subTest(window):
                self.assertEqual(fours_of(self.curve, window), (None,) * window[2])
        whole = four_of(self.curve)
        self.assertEqual(fours_of(self.curve, (-SIXTY, 2 * SIXTY, 1)), (whole,))
        self.assertEqual(fours_of(self.curve, (-SIXTY, SIXTY, 2)), (((-4, 1),) * 4, four_of(self.curve[1:])))

    def test_of_the_empty_curve(self):
        self.assertEqual(fours_of((), (0, 1, 200)), (None,) * 200)

    def test_sixty_figures(self):
        curve = ((-SIXTY, -1), (-1, SIXTY), (0, -SIXTY), (SIXTY, 1))
        self.assertEqual(fours_of(curve, (-SIXTY, SIXTY, 3)), (
            ((-SIXTY, -1), (-1, SIXTY), (-SIXTY, -1), (-1, SIXTY)), ((0, -SIXTY),) * 4, ((SIXTY, 1),) * 4))

    def test_column_by_column(self):
        chance = random.Random(11)
        for turn in range(400):
            curve = some_curve(chance, chance.randrange(61))
            window = (chance.randrange(-80, 130), chance.randrange(1, 25), chance.choice((1, 2, 3, 12, 200)))
            told = fours_of(curve, window)
            self.assertIs(type(told), tuple)
            self.assertEqual(len(told), window[2])
            for k in range(window[2]):
                first, behind = times_of(window, k)
                self.assertEqual(told[k], four_by_words(part_of(curve, first, behind)), (curve, window, k))
            self.assertEqual(fours_of(curve, window), told)


class KeptOf(unittest.TestCase):
    def test_by_the_words(self):
        self.assertEqual(kept_of((None, None)), ())
        self.assertEqual(kept_of((((3, 1),) * 4,)), ((3, 1),))
        self.assertEqual(kept_of((None, ((0, 2), (9, 2), (7, 1), (4, 8)), None, ((12, 0), (13, 1), (12, 0), (13, 1)))),
                         ((0, 2), (4, 8), (7, 1), (9, 2), (12, 0), (13, 1)))

    def test_few_sorted_and_the_same_fours_again(self):
        chance = random.Random(12)
        for turn in range(400):
            curve = some_curve(chance, chance.randrange(61))
            window = (chance.randrange(-80, 100), chance.randrange(1, 40), chance.choice((1, 2, 3, 12, 200)))
            told = fours_of(curve, window)
            kept = kept_of(told)
            self.assertIs(is_curve(kept), True)
            self.assertEqual(set(kept), {sample for four in told if four is not None for sample in four})
            self.assertLessEqual(set(kept), set(curve))
            for k in range(window[2]):
                first, behind = times_of(window, k)
                self.assertLessEqual(len(part_of(kept, first, behind)), 4)
            self.assertEqual(fours_of(kept, window), told)
            self.assertEqual(kept_of(fours_of(kept, window)), kept)

    def test_two_hundred_columns_of_four(self):
        curve = tuple((5 * k + n, (0, 9, -9, 1, 2)[n]) for k in range(12) for n in range(5))
        self.assertEqual(kept_of(fours_of(curve, (0, 5, 200))), tuple(s for s in curve if s[1] != 1))


if __name__ == "__main__":
    unittest.main()
