"""A view: a window of a store that is moved step by step and asks for no column that it knows."""

from fourpoints.fours import joined
from fourpoints.tree import check_window
from fourpoints.windows import column_of, columns_of, moved, narrowed, times_of, widened, with_columns


def known_in(known, window):
    staying = {}
    for first, behind in columns_of(window):
        # Columns half as wide are known only where the window was widened, so no step needs a rule of its own.
        middle = (first + behind) // 2
        if (first, behind) in known:
            staying[(first, behind)] = known[(first, behind)]
        elif (first, middle) in known and (middle, behind) in known:
            staying[(first, behind)] = joined(known[(first, middle)], known[(middle, behind)])
    return staying


class View:
    def __init__(self, store, window):
        check_window(window)
        self.source = store
        self.window = window
        self.asked = 0
        # The fours of the known columns, by the columns' times.
        self.known = {}
        # How many of the times that the store tells of its deeds were looked at.
        self.seen = 0

    def fours(self):
        self.forget()
        columns = columns_of(self.window)
        for first, behind in columns:
            if (first, behind) not in self.known:
                self.known[(first, behind)] = self.source.four(first, behind)
                self.asked += 1
        return tuple([self.known[times] for times in columns])

    def forget(self):
        times = self.source.times()
        for t in times[self.seen:]:
            k = column_of(self.window, t)
            if k is not None:
                self.known.pop(times_of(self.window, k), None)
        self.seen = len(times)

    def on(self, c):
        self.step_to(moved(self.window, c))

    def wide(self):
        self.step_to(widened(self.window))

    def narrow(self):
        self.step_to(narrowed(self.window))

    def columns(self, n):
        self.step_to(with_columns(self.window, n))

    def step_to(self, window):
        check_window(window)
        # Ahead of the step: the deeds so far were done while the window was as it is.
        self.forget()
        self.known = known_in(self.known, window)
        self.window = window
