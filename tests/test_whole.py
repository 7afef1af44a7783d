"""What the document promises over all files together."""

import random
import unittest

from by_words import (
    END, SlowStore, dots_by_words, fours_by_words, some_deed, some_time, some_window)
from fourpoints.board import Board, parting
from fourpoints.dots import dots_by, dots_of
from fourpoints.errors import FourPointsError, NoColumn, NotApart
from fourpoints.fours import fours_of, kept_of
from fourpoints.samples import curve_of, curve_text, read_curve
from fourpoints.store import Store
from fourpoints.tree import Tree, stretches
from fourpoints.view import View
from fourpoints.windows import column_of, times_of


def some_heights(chance):
    return (chance.randrange(-24, 12), chance.randrange(1, 6), chance.randrange(1, 13))


def some_curve(chance, many):
    samples = {some_time(chance): chance.randrange(-20, 20) for n in range(many)}
    return tuple(sorted(samples.items()))


class Drawn(unittest.TestCase):
    """The dots drawn from the kept samples are those drawn from all."""

    def test_by_the_fours_of_a_curve_a_tree_a_store_and_a_view(self):
        chance = random.Random(71)
        for turn in range(200):
            curve = some_curve(chance, chance.randrange(61))
            window, heights = some_window(chance), some_heights(chance)
            if curve and chance.randrange(2):
                heights = (chance.choice(curve)[1] - 2, 1, 12)
            dots = dots_by_words(curve, window, heights)
            store = Store(curve)
            for fours in (fours_of(curve, window), Tree(curve).fours(window), store.fours(window),
                          View(store, window).fours()):
                self.assertEqual(fours, fours_by_words(curve, window))
                kept = kept_of(fours)
                self.assertLessEqual(len(kept), 4 * window[2])
                self.assertLessEqual(set(kept), set(curve))
                self.assertEqual(fours_of(kept, window), fours)
                self.assertEqual(dots_by(fours, window, heights), dots)
                self.assertEqual(dots_of(kept, window, heights), dots)
            self.assertEqual(dots_of(curve, window, heights), dots)

    def test_by_a_view_that_is_moved_while_samples_come(self):
        chance = random.Random(72)
        for turn in range(40):
            store, slow = Store(), SlowStore()
            view = View(store, (chance.randrange(-40, 20), chance.choice((1, 2, 4, 8)), 12))
            for n in range(40):
                some_deed(chance, store, slow, lambda own: own.randrange(-60, 60), 12)
                step = chance.randrange(6)
                if step == 0:
                    view.on(chance.randrange(-3, 4))
                elif step == 1 and view.window[1] < 16:
                    view.wide()
                elif step == 2 and view.window[1] % 2 == 0:
                    view.narrow()
                elif step == 3:
                    view.columns(chance.randrange(1, 13))
                if chance.randrange(3) == 0:
                    heights = some_heights(chance)
                    fours = view.fours()
                    self.assertEqual(fours, View(store, view.window).fours())
                    self.assertEqual(dots_by(fours, view.window, heights),
                                     dots_by_words(slow.curve(), view.window, heights))


class InWhateverOrder(unittest.TestCase):
    def test_stores_and_trees_tell_the_same(self):
        chance = random.Random(73)
        for turn in range(60):
            curve = some_curve(chance, chance.randrange(1, 40))
            straight, late, mixed, tree = Store(curve), Store(), Store(), Tree()
            order = list(curve)
            chance.shuffle(order)
            for t, h in order:
                late.put(t, h)
                tree.put(t, h + 1)
                # Put wrong and right again, and some that don't stay.
                mixed.put(t, h - 5)
                other = some_time(chance)
                if other not in dict(mixed.told()):
                    mixed.put(other, 0)
                    if chance.randrange(2):
                        mixed.take(other)
                    else:
                        mixed.undo()
            chance.shuffle(order)
            for t, h in order:
                mixed.put(t, h)
                tree.put(t, h)
            windows = [some_window(chance) for n in range(4)]
            for one in (straight, late, mixed, tree):
                self.assertEqual(one.told(), curve)
                for window in windows:
                    self.assertEqual(one.fours(window), fours_by_words(curve, window))

    def test_a_deed_changes_the_four_of_no_column_but_its_own(self):
        chance = random.Random(74)
        for turn in range(30):
            store = Store(some_curve(chance, 20))
            slow = SlowStore(store.told())
            windows = [some_window(chance) for n in range(5)]
            watches = [store.watch(window) for window in windows]
            for deed in range(25):
                before = [store.fours(window) for window in windows]
                done = len(store.times())
                some_deed(chance, store, slow)
                own = store.times()[done:]
                self.assertLessEqual(len(own), 1)
                for window, watch, fours in zip(windows, watches, before):
                    now = store.fours(window)
                    changed = tuple(k for k in range(window[2]) if now[k] != fours[k])
                    self.assertLessEqual(set(changed), {column_of(window, t) for t in own})
                    self.assertEqual(store.news(watch), changed)


class FewStretches(unittest.TestCase):
    def test_a_column_is_made_up_of_at_most_eighty(self):
        chance = random.Random(75)
        for turn in range(200):
            window = some_window(chance)
            tree = Tree()
            for k in range(window[2]):
                before = tree.looks
                tree.four(*times_of(window, k))
                self.assertLessEqual(tree.looks - before, 80)
                self.assertEqual(tree.looks - before, len(stretches(*times_of(window, k))))


class NoneToSpare(unittest.TestCase):
    def test_each_of_the_four(self):
        for part in range(4):
            curve, heights = parting((0, 4, 3), 1, part)
            store = Store(curve)
            fours = store.fours((0, 4, 3))
            store.take(fours[1][part][0])
            self.assertNotEqual(dots_by(fours, (0, 4, 3), heights),
                                dots_by(store.fours((0, 4, 3)), (0, 4, 3), heights))


class HandedInAndTold(unittest.TestCase):
    def test_what_is_handed_in_stays_and_has_no_bearing_later(self):
        samples = [(3, 1), (0, 2), (3, 4)]
        curve = curve_of(samples)
        self.assertEqual(samples, [(3, 1), (0, 2), (3, 4)])
        store, tree = Store(curve), Tree(curve)
        samples.clear()
        self.assertEqual((curve, store.told(), tree.told()), (((0, 2), (3, 4)),) * 3)
        store.put(5, 5)
        tree.put(6, 6)
        self.assertEqual(curve, ((0, 2), (3, 4)))
        self.assertEqual(store.told(), ((0, 2), (3, 4), (5, 5)))
        self.assertEqual(tree.told(), ((0, 2), (3, 4), (6, 6)))

    def test_a_store_told_by_a_board_is_seen_by_its_views(self):
        board = Board()
        view = View(board.store("a"), (0, 2, 2))
        self.assertEqual(view.fours(), (None, None))
        board.store("a").put(2, 1)
        self.assertEqual(view.fours(), (None, ((2, 1),) * 4))
        self.assertEqual(view.asked, 3)
        self.assertEqual(board.picture(view.window, (0, 1, 2)), ".a\n..\n")
        self.assertEqual(board.kept(view.window), 1)

    def test_all_is_told_alike_when_asked_again(self):
        for turn in range(30):
            answers = []
            for again in range(2):
                chance = random.Random(turn)
                board, slow = Board(), SlowStore()
                store = board.store("a")
                deeds = [some_deed(chance, store, slow) for n in range(30)]
                window, heights = some_window(chance), some_heights(chance)
                for asked in range(2):
                    answers.append((deeds, store.told(), store.times(), store.fours(window), store.four(-END, END),
                                    board.picture(window, heights), board.kept(window), board.names()))
            self.assertEqual(answers, answers[:1] * 4)
            curve = answers[0][1]
            self.assertEqual(read_curve(curve_text(curve)), curve)

    def test_eighty_samples(self):
        store = Store(tuple((t, t % 7) for t in range(-60, 0)))
        for t in range(20):
            store.put(7 * t, -t)
        curve = store.told()
        self.assertEqual(len(curve), 80)
        for window in ((-60, 5, 40), (-END, 2 ** 36, 32), (-61, 6, 40)):
            self.assertEqual(store.fours(window), fours_by_words(curve, window))

    def test_no_column_and_not_apart_are_errors_of_the_program(self):
        for window, k, part, error in (((0, 4, 2), 2, 0, NoColumn), ((0, 4, 2), 0, 0, NotApart)):
            with self.assertRaises(FourPointsError) as caught:
                parting(window, k, part)
            self.assertIs(type(caught.exception), error)


if __name__ == "__main__":
    unittest.main()
