import itertools
import random
import unittest

from by_words import (
    END, JUST_WITHIN, NO_BORDERS, NO_TIMES, OUTSIDE, SIXTY, SlowStore, arguments_of, four_by_words, fours_by_words,
    some_deed, some_time, some_window)
from fourpoints.errors import FourPointsError, NoSample, NoWatch, OutOfTimes
from fourpoints.store import Store
from fourpoints.tree import Tree

CURVE = ((-3, 1), (0, 5), (1, 5), (6, -2))
# No sample's time, be it a tree time or not; True and False are found at 1 and 0 by a careless look.
NO_SAMPLES = (-4, -2, -1, 3, 5, 7, END - 1, -END) + NO_TIMES + ((0, 5), "1", [0, 5], {0: 5}, {0})


def part(curve, begin, end):
    return [s for s in curve if begin <= s[0] < end]


class Interface(unittest.TestCase):
    def test_names_arguments_and_defaults(self):
        self.assertEqual(arguments_of(Store), [("curve", None)])
        asked = {"put": ["self", "t", "h"], "take": ["self", "t"], "height": ["self", "t"],
                 "four": ["self", "begin", "end"], "fours": ["self", "window"], "told": ["self"],
                 "watch": ["self", "window"], "news": ["self", "number"], "undo": ["self"], "times": ["self"]}
        for name, arguments in asked.items():
            with self.subTest(name):
                self.assertEqual(arguments_of(getattr(Store, name)), arguments)

    def test_the_curve_by_its_name(self):
        self.assertEqual(Store(curve=((1, 2),)).told(), ((1, 2),))
        for store in (Store(), Store(None), Store(curve=None), Store(())):
            self.assertEqual(store.told(), ())
            self.assertIsNone(store.four(-END, END))
            self.assertEqual(store.fours((0, 1, 3)), (None, None, None))
            self.assertEqual(store.times(), ())
            self.assertIs(store.undo(), False)


class Deeds(unittest.TestCase):
    def test_put_tells_what_stood_there(self):
        store = Store(CURVE)
        self.assertIsNone(store.put(2, 7))
        self.assertEqual(store.put(2, 0), 7)
        self.assertEqual(store.put(2, 9), 0)
        self.assertEqual(store.put(0, 5), 5)
        self.assertEqual(store.put(-3, 4), 1)
        self.assertIsNone(store.put(-4, 4))
        self.assertEqual(store.told(), ((-4, 4), (-3, 4), (0, 5), (1, 5), (2, 9), (6, -2)))
        self.assertEqual(store.four(-4, 7), ((-4, 4), (6, -2), (6, -2), (2, 9)))

    def test_take_tells_the_height(self):
        store = Store(CURVE + ((9, 0),))
        self.assertEqual(store.take(0), 5)
        self.assertEqual(store.four(-3, 7), ((-3, 1), (6, -2), (6, -2), (1, 5)))
        self.assertEqual(store.take(6), -2)
        self.assertEqual(store.four(-3, 7), ((-3, 1), (1, 5), (-3, 1), (1, 5)))
        self.assertEqual(store.take(9), 0)
        self.assertEqual(store.take(-3), 1)
        self.assertEqual(store.told(), ((1, 5),))
        self.assertEqual(store.take(1), 5)
        self.assertEqual(store.told(), ())
        self.assertIsNone(store.four(-END, END))
        self.assertIsNone(store.put(1, 6))
        self.assertEqual(store.four(-END, END), ((1, 6),) * 4)

    def test_height(self):
        store = Store(CURVE)
        self.assertEqual([store.height(t) for t in (-3, 0, 1, 6)], [1, 5, 5, -2])
        store.put(6, 0)
        self.assertEqual(store.height(6), 0)
        self.assertEqual(store.height(6), 0)
        store.undo()
        self.assertEqual(store.height(6), -2)
        self.assertEqual(store.times(), (6, 6))

    def test_the_outermost_times_and_great_heights(self):
        store = Store(((-END, SIXTY),))
        self.assertIsNone(store.put(END - 1, -SIXTY))
        self.assertEqual(store.height(END - 1), -SIXTY)
        self.assertEqual(store.four(-END, END), ((-END, SIXTY), (END - 1, -SIXTY), (END - 1, -SIXTY), (-END, SIXTY)))
        self.assertEqual(store.take(-END), SIXTY)
        self.assertEqual(store.told(), ((END - 1, -SIXTY),))
        for window in JUST_WITHIN:
            with self.subTest(window):
                self.assertEqual(store.fours(window), fours_by_words(store.told(), window))
                self.assertEqual(store.news(store.watch(window)), ())

    def test_two_stores_are_each_their_own(self):
        one, other = Store(CURVE), Store(CURVE)
        one.put(0, 1)
        one.take(6)
        one.watch((0, 1, 1))
        self.assertEqual(other.told(), CURVE)
        self.assertEqual(other.times(), ())
        self.assertIs(other.undo(), False)
        self.assertEqual(other.watch((0, 4, 2)), 0)
        one.undo()
        self.assertEqual(other.news(0), ())

    def test_every_order(self):
        for order in itertools.permutations(((-2, 5), (3, 5), (0, 1), (-2, 2), (7, 1))):
            store, samples = Store(), {}
            for t, h in order:
                self.assertEqual(store.put(t, h), samples.get(t))
                samples[t] = h
            self.assertEqual(store.take(7), 1)
            samples.pop(7)
            curve = tuple(sorted(samples.items()))
            self.assertEqual(store.told(), curve)
            self.assertEqual(store.fours((-4, 3, 5)), fours_by_words(curve, (-4, 3, 5)))


class AgainstALookAtAllSamples(unittest.TestCase):
    def check(self, chance, store, slow):
        curve = slow.curve()
        self.assertEqual(store.told(), curve)
        self.assertEqual(store.times(), tuple(slow.done))
        for window in [some_window(chance) for n in range(3)]:
            told = store.fours(window)
            self.assertEqual(told, fours_by_words(curve, window), (curve, window))
            self.assertIs(type(told), tuple)
        for begin, end in [(some_time(chance), some_time(chance)) for n in range(3)] + [(-END, END)]:
            self.assertEqual(store.four(begin, end), four_by_words(part(curve, begin, end)), (curve, begin, end))
        for t in [t for t, h in curve] + [some_time(chance)]:
            if t in slow.samples():
                self.assertEqual(store.height(t), slow.samples()[t])
            else:
                self.assertRaises(NoSample, store.height, t)

    def test_any_mix_of_deeds(self):
        chance = random.Random(41)
        for turn in range(40):
            samples = {some_time(chance): chance.randrange(-6, 6) for n in range(chance.randrange(20))}
            store, slow = Store(tuple(sorted(samples.items()))), SlowStore(samples)
            for deed in range(chance.randrange(60)):
                told, expected = some_deed(chance, store, slow)
                self.assertEqual(told, expected)
                self.assertIs(type(told), type(expected))
                if deed % 7 == 0:
                    self.check(chance, store, slow)
            self.check(chance, store, slow)
            while slow.undo():
                self.assertIs(store.undo(), True)
                self.assertEqual(store.told(), slow.curve())
            self.check(chance, store, slow)
            self.assertIs(store.undo(), False)
            self.assertEqual(store.told(), tuple(sorted(samples.items())))


class Refusals(unittest.TestCase):
    def store(self):
        """A store with a watch, one deed that can be undone and one that is; with a way to see it all."""
        store = Store(CURVE)
        store.watch((-4, 4, 3))
        store.put(2, 2)
        store.take(2)
        store.undo()
        return store

    def unchanged(self, store):
        self.assertEqual(store.times(), (2, 2, 2))
        curve = ((-3, 1), (0, 5), (1, 5), (2, 2), (6, -2))
        self.assertEqual(store.told(), curve)
        self.assertEqual(store.fours((-4, 4, 3)), fours_by_words(curve, (-4, 4, 3)))
        self.assertEqual(store.watch((0, 1, 1)), 1)
        self.assertEqual(store.news(0), (1,))
        self.assertIs(store.undo(), True)
        self.assertEqual(store.told(), CURVE)
        self.assertIs(store.undo(), False)
        self.assertEqual(store.news(0), (1,))
        self.assertEqual(store.times(), (2, 2, 2, 2))

    def refused(self, error, deed, *things):
        store = self.store()
        with self.assertRaises(error) as caught:
            getattr(store, deed)(*things)
        self.assertIs(type(caught.exception), error)
        self.assertIsInstance(caught.exception, FourPointsError)
        self.unchanged(store)

    def test_the_store_itself(self):
        self.unchanged(self.store())

    def test_a_curve_with_other_times(self):
        for curve in (((END, 0),), ((-END - 1, 0),), ((0, 0), (SIXTY, 0)), ((-SIXTY, 0), (0, 0)),
                      ((-1, 0), (0, 0), (END, 0))):
            with self.subTest(curve):
                self.assertRaises(OutOfTimes, Store, curve)
                with self.assertRaises(OutOfTimes):
                    Store(curve=curve)

    def test_put(self):
        for t in NO_TIMES:
            with self.subTest(repr(t)):
                self.refused(OutOfTimes, "put", t, 9)

    def test_take_and_height(self):
        for t in NO_SAMPLES:
            with self.subTest(repr(t)):
                self.refused(NoSample, "take", t)
                self.refused(NoSample, "height", t)

    def test_what_was_taken_out_is_no_sample(self):
        store = Store(CURVE)
        store.take(1)
        self.assertRaises(NoSample, store.take, 1)
        self.assertRaises(NoSample, store.height, 1)
        self.assertRaises(NoSample, store.take, True)
        store.undo()
        self.assertEqual(store.height(1), 5)
        store.put(3, 3)
        store.undo()
        self.assertRaises(NoSample, store.take, 3)
        self.assertRaises(NoSample, store.height, 3)
        self.assertEqual(store.times(), (1, 1, 3, 3))

    def test_four(self):
        for thing in NO_BORDERS:
            for begin, end in ((thing, 0), (0, thing), (thing, END), (-END, thing), (thing, -END), (END, thing)):
                with self.subTest(repr((begin, end))):
                    self.refused(OutOfTimes, "four", begin, end)

    def test_windows(self):
        for window in OUTSIDE:
            with self.subTest(window):
                self.refused(OutOfTimes, "fours", window)
                self.refused(OutOfTimes, "watch", window)

    def test_news(self):
        for number in (1, 2, -1, -2, SIXTY, -SIXTY, True, False, None, "", "0", (), (0,), [], [0], {}, {0}, b"0",
                       object(), int):
            with self.subTest(repr(number)):
                self.refused(NoWatch, "news", number)
        for number in (0, -1, True, False):
            with self.subTest(number):
                self.assertRaises(NoWatch, Store(CURVE).news, number)


class Watches(unittest.TestCase):
    def test_numbers(self):
        store = Store(CURVE)
        for number in range(12):
            told = store.watch((0, 1, 1) if number % 3 else (number, 2, 3))
            self.assertEqual(told, number)
            self.assertIs(type(told), int)

    def test_news(self):
        store = Store(CURVE)
        self.assertEqual(store.watch((-4, 4, 3)), 0)
        self.assertEqual(store.news(0), ())
        store.put(3, 9)
        self.assertEqual(store.news(0), (1,))
        self.assertEqual(store.news(0), ())
        store.take(6)
        store.put(-1, 1)
        store.put(7, -2)
        self.assertEqual(store.news(0), (0, 2))
        self.assertEqual(store.news(0), ())
        store.put(8, 0)
        store.put(-5, 0)
        self.assertEqual(store.news(0), ())
        # A sample that is none of the four, before and behind.
        store.put(2, 8)
        store.put(2, 6)
        store.take(2)
        self.assertEqual(store.news(0), ())

    def test_columns_that_become_empty_and_full(self):
        store = Store(((0, 0),))
        store.watch((0, 1, 3))
        store.put(2, 0)
        self.assertEqual(store.news(0), (2,))
        store.take(0)
        self.assertEqual(store.news(0), (0,))
        store.take(2)
        store.put(1, 0)
        self.assertEqual(store.news(0), (1, 2))

    def test_what_is_put_right_again_is_no_news(self):
        store = Store(CURVE)
        store.watch((-4, 4, 3))
        store.put(0, 9)
        store.put(0, 5)
        store.take(6)
        store.put(6, -2)
        store.put(1, 7)
        store.undo()
        self.assertEqual(store.news(0), ())
        store.put(0, 9)
        self.assertEqual(store.news(0), (1,))
        store.put(0, 5)
        self.assertEqual(store.news(0), (1,))

    def test_each_watch_by_itself(self):
        store = Store(CURVE)
        self.assertEqual([store.watch(window) for window in ((-4, 4, 3), (-4, 4, 3), (-4, 6, 2))], [0, 1, 2])
        store.put(3, 9)
        self.assertEqual(store.news(0), (1,))
        self.assertEqual(store.watch((-4, 4, 3)), 3)
        store.put(-2, 9)
        self.assertEqual(store.news(0), (0,))
        self.assertEqual(store.news(1), (0, 1))
        self.assertEqual(store.news(2), (0, 1))
        self.assertEqual(store.news(3), (0,))
        self.assertEqual([store.news(n) for n in range(4)], [(), (), (), ()])

    def test_watches_are_told_of_undos(self):
        store = Store(CURVE)
        store.watch((-4, 4, 3))
        store.take(6)
        store.put(-4, 0)
        self.assertEqual(store.news(0), (0, 2))
        store.undo()
        self.assertEqual(store.news(0), (0,))
        store.undo()
        self.assertEqual(store.news(0), (2,))
        store.undo()
        self.assertEqual(store.news(0), ())

    def test_forty_columns(self):
        store = Store()
        store.watch((-20, 1, 40))
        for t in range(-20, 20):
            store.put(t, t)
        self.assertEqual(store.news(0), tuple(range(40)))

    def test_by_the_words(self):
        chance = random.Random(42)
        for turn in range(30):
            store, slow, seen = Store(), SlowStore(), []
            for deed in range(60):
                some_deed(chance, store, slow)
                if chance.randrange(8) == 0:
                    window = chance.choice(seen)[0] if seen and chance.randrange(3) == 0 else some_window(chance)
                    self.assertEqual(store.watch(window), len(seen))
                    seen.append([window, fours_by_words(slow.curve(), window)])
                if seen and chance.randrange(3) == 0:
                    number = chance.randrange(len(seen))
                    window, before = seen[number]
                    now = seen[number][1] = fours_by_words(slow.curve(), window)
                    told = store.news(number)
                    self.assertEqual(told, tuple(k for k in range(window[2]) if now[k] != before[k]))
                    self.assertIs(type(told), tuple)
                    self.assertEqual(store.news(number), ())


class Undo(unittest.TestCase):
    def test_deed_by_deed(self):
        store = Store(CURVE)
        curves = [store.told()]
        for deed in (lambda: store.put(2, 2), lambda: store.put(2, 3), lambda: store.take(0), lambda: store.put(0, 0),
                     lambda: store.take(2), lambda: store.put(-9, 9)):
            deed()
            curves.append(store.told())
        self.assertEqual(store.times(), (2, 2, 0, 0, 2, -9))
        for curve in reversed(curves[:-1]):
            self.assertIs(store.undo(), True)
            self.assertEqual(store.told(), curve)
            self.assertEqual(store.fours((-9, 3, 6)), fours_by_words(curve, (-9, 3, 6)))
        self.assertEqual(store.told(), CURVE)
        for turn in range(3):
            self.assertIs(store.undo(), False)
            self.assertEqual(store.told(), CURVE)
            self.assertEqual(store.times(), (2, 2, 0, 0, 2, -9, -9, 2, 0, 0, 2, 2))

    def test_a_put_of_what_stood_there_is_a_deed(self):
        store = Store(CURVE)
        self.assertEqual(store.put(0, 5), 5)
        self.assertEqual(store.put(0, 5), 5)
        self.assertEqual(store.times(), (0, 0))
        self.assertIs(store.undo(), True)
        self.assertEqual(store.told(), CURVE)
        self.assertIs(store.undo(), True)
        self.assertEqual(store.told(), CURVE)
        self.assertIs(store.undo(), False)
        self.assertEqual(store.times(), (0, 0, 0, 0))

    def test_deeds_behind_undos(self):
        store = Store()
        store.put(1, 1)
        store.put(1, 2)
        store.undo()
        store.put(1, 3)
        store.take(1)
        self.assertIs(store.undo(), True)
        self.assertEqual(store.told(), ((1, 3),))
        self.assertIs(store.undo(), True)
        # The undone put of 2 stays undone: an undo is no deed that can be undone.
        self.assertEqual(store.told(), ((1, 1),))
        self.assertIs(store.undo(), True)
        self.assertEqual(store.told(), ())
        self.assertIs(store.undo(), False)
        self.assertEqual(store.times(), (1,) * 8)

    def test_heights_of_nought_come_back(self):
        store = Store(((0, 0),))
        self.assertEqual(store.put(0, 4), 0)
        store.undo()
        self.assertEqual(store.told(), ((0, 0),))
        self.assertEqual(store.take(0), 0)
        store.undo()
        self.assertEqual(store.height(0), 0)

    def test_looking_is_no_deed(self):
        store = Store(CURVE)
        store.put(2, 2)
        store.height(0)
        store.four(0, 3)
        store.fours((0, 3, 3))
        store.told()
        store.news(store.watch((0, 3, 3)))
        self.assertEqual(store.times(), (2,))
        self.assertIs(store.undo(), True)
        self.assertEqual(store.told(), CURVE)


class WhatIsTold(unittest.TestCase):
    def test_it_is_not_changed_by_later_deeds(self):
        store = Store(CURVE)
        store.watch((-4, 4, 3))
        store.put(2, 8)
        told = (store.told(), store.fours((-4, 4, 3)), store.four(-4, 8), store.news(0), store.times())
        again = (store.told(), store.fours((-4, 4, 3)), store.four(-4, 8), (1,), store.times())
        self.assertEqual(told, again)
        store.put(2, 9)
        store.take(6)
        store.undo()
        store.put(-3, 0)
        store.news(0)
        self.assertEqual(told, again)
        self.assertEqual(CURVE, ((-3, 1), (0, 5), (1, 5), (6, -2)))

    def test_kinds(self):
        store = Store(CURVE)
        store.put(2, 8)
        store.watch((-4, 4, 3))
        for thing in (store.told(), store.fours((-4, 4, 3)), store.four(-4, 8), store.news(0), store.times()):
            self.assertIs(type(thing), tuple)

    def test_a_tree_of_the_same_samples_tells_the_same(self):
        store = Store(CURVE)
        store.take(1)
        store.put(3, 3)
        tree = Tree(store.told())
        self.assertEqual(store.fours((-4, 4, 3)), tree.fours((-4, 4, 3)))
        self.assertEqual(store.four(0, 4), tree.four(0, 4))


if __name__ == "__main__":
    unittest.main()
