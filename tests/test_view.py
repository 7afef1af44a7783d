import random
import unittest

from by_words import (
    END, JUST_WITHIN, OUTSIDE, SIXTY, SlowStore, arguments_of, fours_by_words, some_deed)
from fourpoints.errors import NotHalf, OutOfTimes
from fourpoints.store import Store
from fourpoints.view import View

CURVE = tuple((t, t * t % 13) for t in range(-30, 30, 2))


class SlowView:
    """What of a window is known, by the words of the document: each rule for each column by itself."""

    def __init__(self, window):
        self.window = window
        self.asked = 0
        self.known = [False] * window[2]

    def columns_times(self):
        begin, wide, many = self.window
        return [range(begin + k * wide, begin + (k + 1) * wide) for k in range(many)]

    def fours(self):
        self.asked += self.known.count(False)
        self.known = [True] * self.window[2]

    def deed(self, t):
        self.known = [known and t not in times for known, times in zip(self.known, self.columns_times())]

    def step(self, window, wider=False):
        before = [times for known, times in zip(self.known, self.columns_times()) if known]
        self.window = window
        self.known = [times in before or (wider and self.made_of_two(times, before)) for times in self.columns_times()]

    def made_of_two(self, times, before):
        return any(one.start == times.start and one.stop == other.start and other.stop == times.stop
                   for one in before for other in before)

    def on(self, c):
        begin, wide, many = self.window
        self.step((begin + c * wide, wide, many))

    def wide(self):
        begin, wide, many = self.window
        self.step((begin, wide * 2, many), True)

    def narrow(self):
        begin, wide, many = self.window
        if wide % 2:
            raise NotHalf
        self.step((begin, wide // 2, many))

    def columns(self, n):
        begin, wide, many = self.window
        self.step((begin, wide, n))


class Interface(unittest.TestCase):
    def test_names_and_arguments(self):
        self.assertEqual(arguments_of(View), ["store", "window"])
        asked = {"fours": ["self"], "on": ["self", "c"], "wide": ["self"], "narrow": ["self"],
                 "columns": ["self", "n"]}
        for name, arguments in asked.items():
            with self.subTest(name):
                self.assertEqual(arguments_of(getattr(View, name)), arguments)

    def test_window_and_asked_are_set_when_it_is_made(self):
        view = View(Store(CURVE), (0, 4, 3))
        self.assertEqual(view.window, (0, 4, 3))
        self.assertEqual(view.asked, 0)
        self.assertIs(type(view.asked), int)
        self.assertIs(type(view.window), tuple)


class Steps(unittest.TestCase):
    def view(self, window=(0, 4, 3), store=None):
        view = View(Store(CURVE) if store is None else store, window)
        view.fours()
        self.assertEqual(view.asked, window[2])
        return view

    def asks(self, view, more, curve=CURVE):
        before = view.asked
        told = view.fours()
        self.assertEqual(told, fours_by_words(curve, view.window))
        self.assertIs(type(told), tuple)
        self.assertEqual(view.asked - before, more)
        self.assertEqual(view.fours(), told)
        self.assertEqual(view.asked - before, more)

    def test_asked_again_nothing_is_asked_for(self):
        view = View(Store(CURVE), (0, 4, 3))
        self.asks(view, 3)
        self.asks(view, 0)
        self.assertEqual(view.asked, 3)

    def test_on_and_back(self):
        for c, window, more in ((0, (0, 4, 3), 0), (1, (4, 4, 3), 1), (2, (8, 4, 3), 2), (3, (12, 4, 3), 3),
                                (5, (20, 4, 3), 3), (-1, (-4, 4, 3), 1), (-2, (-8, 4, 3), 2), (-3, (-12, 4, 3), 3),
                                (-7, (-28, 4, 3), 3)):
            with self.subTest(c):
                view = self.view()
                self.assertIsNone(view.on(c))
                self.assertEqual(view.window, window)
                self.assertEqual(view.asked, 3)
                self.asks(view, more)

    def test_what_left_the_window_is_known_no_more(self):
        view = self.view()
        view.on(1)
        view.on(-1)
        self.assertEqual(view.window, (0, 4, 3))
        self.asks(view, 1)
        view.on(-2)
        view.on(2)
        self.asks(view, 2)
        view.columns(1)
        view.columns(3)
        self.asks(view, 2)
        view.on(9)
        view.on(-9)
        self.asks(view, 3)

    def test_more_and_fewer_columns(self):
        for n, more in ((1, 0), (2, 0), (3, 0), (4, 1), (40, 37)):
            with self.subTest(n):
                view = self.view()
                self.assertIsNone(view.columns(n))
                self.assertEqual(view.window, (0, 4, n))
                self.assertEqual(view.asked, 3)
                self.asks(view, more)

    def test_wide(self):
        for many, more in ((1, 1), (2, 1), (3, 2), (4, 2), (5, 3), (8, 4), (40, 20)):
            with self.subTest(many):
                view = self.view((-60, 3, many))
                self.assertIsNone(view.wide())
                self.assertEqual(view.window, (-60, 6, many))
                self.assertEqual(view.asked, many)
                self.asks(view, more)

    def test_wide_where_only_some_columns_are_known(self):
        for known, more in (((), 4), ((0,), 4), ((0, 1), 3), ((1, 2), 4), ((2, 3), 3), ((0, 2, 3), 3),
                            ((0, 1, 2, 3), 2), ((3,), 4), ((1, 3), 4)):
            with self.subTest(known):
                store = Store(CURVE)
                view = self.view((0, 2, 4), store)
                for k in range(4):
                    if k not in known:
                        store.put(2 * k + 1, 0)
                view.wide()
                self.asks(view, more, store.told())

    def test_wide_twice(self):
        view = self.view((0, 2, 4))
        view.wide()
        view.wide()
        self.assertEqual(view.window, (0, 8, 4))
        self.asks(view, 3)

    def test_wide_joins_empty_columns_and_equal_heights(self):
        store = Store(((1, 5), (2, 5), (9, 1), (14, 1), (16, 2), (19, 0)))
        view = self.view((0, 2, 10), store)
        view.wide()
        self.asks(view, 5, store.told())
        self.assertEqual(view.fours()[:3], (((1, 5), (2, 5), (1, 5), (1, 5)), None, ((9, 1),) * 4))
        view = self.view((0, 1, 20), store)
        for turn in range(3):
            view.wide()
        self.assertEqual(view.window, (0, 8, 20))
        self.asks(view, 18, store.told())

    def test_narrow(self):
        for window in ((0, 4, 3), (-6, 2, 5), (0, 12, 1)):
            with self.subTest(window):
                view = self.view(window)
                self.assertIsNone(view.narrow())
                self.assertEqual(view.window, (window[0], window[1] // 2, window[2]))
                self.assertEqual(view.asked, window[2])
                self.asks(view, window[2])

    def test_narrow_and_wide_again(self):
        view = self.view((0, 4, 4))
        view.narrow()
        view.wide()
        self.assertEqual(view.window, (0, 4, 4))
        self.asks(view, 4)
        view.narrow()
        self.asks(view, 4)
        view.wide()
        self.asks(view, 2)
        view.wide()
        view.narrow()
        self.assertEqual(view.window, (0, 4, 4))
        self.asks(view, 4)

    def test_steps_without_fours_make_nothing_known(self):
        view = View(Store(CURVE), (0, 4, 4))
        for step in (lambda: view.on(1), view.wide, view.narrow, lambda: view.columns(6), lambda: view.on(-1)):
            step()
            self.assertEqual(view.asked, 0)
        self.assertEqual(view.window, (0, 4, 6))
        self.asks(view, 6)

    def test_great_windows_far_away(self):
        store = Store(((-END, 1), (END - 1, 2)))
        for window in JUST_WITHIN:
            with self.subTest(window):
                view = View(store, window)
                self.asks(view, window[2], store.told())
        view = View(store, (-END, 1, 2))
        self.asks(view, 2, store.told())
        view.on(2 * END - 2)
        self.assertEqual(view.window, (END - 2, 1, 2))
        self.asks(view, 2, store.told())
        view.on(2 - 2 * END)
        self.asks(view, 2, store.told())
        view = View(store, (-END, 2 ** 39, 2))
        self.asks(view, 2, store.told())
        view.wide()
        self.assertEqual(view.window, (-END, END, 2))
        self.asks(view, 1, store.told())


class DeedsInTheStore(unittest.TestCase):
    window = (0, 4, 3)

    def asks(self, deed, more, store=None):
        store = Store(CURVE) if store is None else store
        view = View(store, self.window)
        view.fours()
        deed(store)
        before = view.asked
        self.assertEqual(view.fours(), fours_by_words(store.told(), self.window))
        self.assertEqual(view.asked - before, more)

    def test_put_take_and_undo(self):
        self.asks(lambda store: store.put(1, 50), 1)
        self.asks(lambda store: store.take(4), 1)
        self.asks(lambda store: (store.put(11, 1), store.take(0)), 2)
        self.asks(lambda store: (store.put(5, 1), store.take(6), store.put(7, 7)), 1)
        for t in (-1, -2, 12, 13, 28, -END, END - 1):
            self.asks(lambda store: store.put(t, 1), 0)
        for t in (0, 3, 4, 7, 8, 11):
            self.asks(lambda store: store.put(t, 1), 1)

    def test_whatever_became_of_the_four(self):
        # What stood there is put in again.
        self.asks(lambda store: store.put(4, store.height(4)), 1)
        # The four of the column is not touched, or is the same again behind several deeds.
        store = Store(((0, 0), (1, 1), (2, 1), (3, 0)))
        self.asks(lambda same: same.put(2, 0), 1, store)
        self.asks(lambda same: (same.put(5, 0), same.undo()), 1)
        self.asks(lambda same: (same.take(4), same.put(4, 3)), 1)
        self.asks(lambda same: (same.take(4), same.undo()), 1)

    def test_an_undo_of_a_deed_done_ahead(self):
        store = Store(CURVE)
        store.put(1, 9)
        store.take(8)
        self.asks(lambda same: same.undo(), 1, store)
        self.assertEqual(store.times(), (1, 8, 8))
        self.asks(lambda same: (same.undo(), same.undo()), 1, store)
        self.asks(lambda same: same.undo(), 0, store)

    def test_what_is_refused_or_looked_at_makes_nothing_unknown(self):
        def looking(store):
            for name, things in (("put", (END, 0)), ("take", (1,)), ("take", (True,)), ("height", (5,))):
                with self.assertRaises(ValueError):
                    getattr(store, name)(*things)
            self.assertIs(store.undo(), False)
            store.fours(self.window)
            store.four(0, 4)
            store.told()
            store.height(0)
            store.news(store.watch(self.window))
            store.times()
        self.asks(looking, 0)

    def test_deeds_ahead_of_a_step(self):
        for deed, step, more in (
            (lambda store: store.put(5, 0), lambda view: view.on(1), 2),
            (lambda store: store.put(1, 0), lambda view: view.on(1), 1),
            (lambda store: store.put(13, 0), lambda view: view.on(1), 1),
            (lambda store: store.put(5, 0), lambda view: view.columns(2), 1),
            (lambda store: store.put(9, 0), lambda view: view.columns(2), 0),
            (lambda store: store.put(5, 0), lambda view: view.wide(), 3),
            (lambda store: store.put(9, 0), lambda view: view.wide(), 2),
        ):
            for order in (0, 1):
                store = Store(CURVE)
                view = View(store, self.window)
                view.fours()
                if order == 0:
                    deed(store)
                step(view)
                if order == 1:
                    deed(store)
                before = view.asked
                self.assertEqual(view.fours(), fours_by_words(store.told(), view.window))
                self.assertEqual(view.asked - before, more)

    def test_two_views_of_one_store(self):
        store = Store(CURVE)
        one, other = View(store, (0, 4, 3)), View(store, (0, 4, 3))
        one.fours()
        self.assertEqual((one.asked, other.asked), (3, 0))
        store.put(5, 0)
        other.fours()
        self.assertEqual((one.asked, other.asked), (3, 3))
        one.on(1)
        self.assertEqual((one.window, other.window), ((4, 4, 3), (0, 4, 3)))
        self.assertEqual(one.fours(), fours_by_words(store.told(), (4, 4, 3)))
        self.assertEqual(other.fours(), fours_by_words(store.told(), (0, 4, 3)))
        self.assertEqual((one.asked, other.asked), (5, 3))
        store.undo()
        one.fours()
        other.fours()
        one.fours()
        self.assertEqual((one.asked, other.asked), (6, 4))

    def test_views_of_two_stores(self):
        one, other = Store(CURVE), Store()
        views = (View(one, (0, 4, 3)), View(other, (0, 4, 3)))
        for view in views:
            view.fours()
        other.put(0, 0)
        self.assertEqual(views[0].fours(), fours_by_words(CURVE, (0, 4, 3)))
        self.assertEqual(views[1].fours(), (((0, 0),) * 4, None, None))
        self.assertEqual([view.asked for view in views], [3, 4])

    def test_what_was_told_is_not_changed(self):
        store = Store(CURVE)
        view = View(store, (0, 4, 3))
        told, window = view.fours(), view.window
        store.put(0, 99)
        view.wide()
        view.fours()
        self.assertEqual((told, window), (fours_by_words(CURVE, (0, 4, 3)), (0, 4, 3)))


class Refusals(unittest.TestCase):
    def test_a_view_of_other_times(self):
        for window in OUTSIDE:
            with self.subTest(window):
                self.assertRaises(OutOfTimes, View, Store(CURVE), window)

    def refused(self, error, window, name, *things):
        store = Store(((-END, 1), (0, 2), (5, 6), (END - 1, 3)))
        view = View(store, window)
        view.fours()
        t = window[0]
        store.put(t, 7)
        before = view.asked
        with self.assertRaises(error) as caught:
            getattr(view, name)(*things)
        self.assertIs(type(caught.exception), error)
        self.assertEqual(view.window, window)
        self.assertEqual(view.asked, before)
        self.assertEqual(view.fours(), fours_by_words(store.told(), window))
        self.assertEqual(view.asked, before + 1)
        with self.assertRaises(error):
            getattr(view, name)(*things)
        view.fours()
        self.assertEqual(view.asked, before + 1)

    def test_narrow_of_odd_columns(self):
        for wide in (1, 3, 7, 2 ** 30 + 1):
            with self.subTest(wide):
                self.refused(NotHalf, (-5, wide, 4), "narrow")

    def test_steps_to_other_times(self):
        for window, name, things in (
            ((END - 12, 4, 3), "on", (1,)),
            ((-END, 4, 3), "on", (-1,)),
            ((0, 4, 3), "on", (2 ** 38,)),
            ((0, 4, 3), "on", (2 ** 38 - 2,)),
            ((0, 4, 3), "on", (-(2 ** 38) - 1,)),
            ((0, 4, 3), "on", (SIXTY,)),
            ((0, 4, 3), "on", (-SIXTY,)),
            ((END - 12, 4, 3), "wide", ()),
            ((0, 2 ** 39, 2), "wide", ()),
            ((-END, END, 2), "wide", ()),
            ((END - 12, 4, 3), "columns", (4,)),
            ((0, 4, 3), "columns", (2 ** 38 + 1,)),
            ((0, 4, 3), "columns", (SIXTY,)),
            ((-END, END, 1), "columns", (3,)),
        ):
            with self.subTest((window, name, things)):
                self.refused(OutOfTimes, window, name, *things)

    def test_steps_to_the_last_tree_times(self):
        view = View(Store(((END - 1, 2),)), (0, 4, 3))
        view.on(2 ** 38 - 3)
        self.assertEqual(view.window, (END - 12, 4, 3))
        self.assertEqual(view.fours(), (None, None, ((END - 1, 2),) * 4))
        view.on(-(2 ** 39) + 3)
        self.assertEqual(view.window, (-END, 4, 3))


class StepByStep(unittest.TestCase):
    def some_step(self, chance, view, slow):
        way = chance.randrange(5)
        if way == 0 and slow.window[1] % 2 == 0:
            self.assertIsNone(view.narrow())
            slow.narrow()
        elif way == 1 and slow.window[1] < 50:
            self.assertIsNone(view.wide())
            slow.wide()
        elif way == 2:
            n = chance.randrange(1, 41)
            self.assertIsNone(view.columns(n))
            slow.columns(n)
        elif way == 3:
            c = chance.randrange(-4, 5)
            self.assertIsNone(view.on(c))
            slow.on(c)

    def test_by_the_words(self):
        chance = random.Random(51)
        for turn in range(120):
            begin = chance.choice((0, 0, 0, 2 ** 39 - 7, -END + 10 ** 6))
            store, slow_store = Store(), SlowStore()
            pairs = []
            for n in range(2):
                wide, many = chance.choice((1, 2, 3, 4, 8, 12)), chance.randrange(1, 13)
                window = (begin + chance.randrange(-60, 40), wide, many)
                pairs.append((View(store, window), SlowView(window)))
            for n in range(60):
                done = len(slow_store.done)
                if chance.randrange(2):
                    some_deed(chance, store, slow_store, lambda own: begin + own.randrange(-70, 120), 3)
                for view, slow in pairs:
                    for t in slow_store.done[done:]:
                        slow.deed(t)
                    if chance.randrange(2):
                        self.some_step(chance, view, slow)
                    if chance.randrange(3) == 0:
                        told = view.fours()
                        slow.fours()
                        self.assertEqual(told, fours_by_words(slow_store.curve(), slow.window))
                        self.assertEqual(told, View(store, view.window).fours())
                    self.assertEqual(view.window, slow.window)
                    self.assertEqual(view.asked, slow.asked)


if __name__ == "__main__":
    unittest.main()
