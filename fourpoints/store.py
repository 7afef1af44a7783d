"""A store: samples that come late, are put right and are taken out, with watches on windows and deeds undone."""

from fourpoints.errors import NoSample, NoWatch
from fourpoints.tree import Tree, check_time
from fourpoints.wholes import is_whole


class Store:
    def __init__(self, curve=None):
        self.tree = Tree(curve)
        # For each deed that is not undone yet its time, and the height that stood there before, None for none.
        self.deeds = []
        self.done = []
        self.watches = []

    def put(self, t, h):
        check_time(t)
        return self.do(t, h)

    def take(self, t):
        self.check_sample(t)
        return self.do(t, None)

    def height(self, t):
        self.check_sample(t)
        return self.tree.samples[t]

    def check_sample(self, t):
        # Whole numbers first: True would be found at 1, and a list cannot be looked for at all.
        if not is_whole(t) or t not in self.tree.samples:
            raise NoSample("no sample has this time")

    def do(self, t, h):
        before = self.tree.samples.get(t)
        self.bring(t, h)
        self.deeds.append((t, before))
        return before

    def bring(self, t, h):
        if h is None:
            self.tree.take(t)
        else:
            self.tree.put(t, h)
        self.done.append(t)

    def undo(self):
        if len(self.deeds) == 0:
            return False
        t, before = self.deeds.pop()
        self.bring(t, before)
        return True

    def times(self):
        return tuple(self.done)

    def four(self, begin, end):
        return self.tree.four(begin, end)

    def fours(self, window):
        return self.tree.fours(window)

    def told(self):
        return self.tree.told()

    def watch(self, window):
        self.watches.append((window, self.fours(window)))
        return len(self.watches) - 1

    def news(self, number):
        if not is_whole(number) or not 0 <= number < len(self.watches):
            raise NoWatch("no watch has this number")
        window, before = self.watches[number]
        now = self.fours(window)
        self.watches[number] = (window, now)
        return tuple([k for k in range(window[2]) if now[k] != before[k]])
