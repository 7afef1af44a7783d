"""Stretches of times, each twice as long as those a level below, and the tree that keeps a four for each."""

from fourpoints.errors import OutOfTimes
from fourpoints.fours import four_of, joined
from fourpoints.samples import curve_of
from fourpoints.wholes import is_whole
from fourpoints.windows import columns_of

TOP_LEVEL = 40
# 2 ** 40: tree times are those from -TIMES_END on and before TIMES_END.
TIMES_END = 1099511627776


def is_border(thing):
    return is_whole(thing) and -TIMES_END <= thing <= TIMES_END


def check_borders(begin, end):
    if not is_border(begin) or not is_border(end):
        raise OutOfTimes("this is no begin or no end of tree times")


def check_time(t):
    if not is_border(t) or t == TIMES_END:
        raise OutOfTimes("this is no tree time")


def check_window(window):
    begin, wide, many = window
    check_borders(begin, begin + many * wide)


def stretches(begin, end):
    check_borders(begin, end)
    found = []
    first = begin
    while first < end:
        level, size = longest(first, end)
        found.append((level, first // size))
        first += size
    return tuple(found)


def longest(first, end):
    # The top level needs no check: no longer stretch begins at a tree time and ends by TIMES_END.
    level = 0
    size = 1
    while first % (2 * size) == 0 and first + 2 * size <= end:
        level += 1
        size *= 2
    return (level, size)


class Tree:
    def __init__(self, curve=None):
        self.looks = 0
        self.samples = {}
        self.kept_fours = {}
        if curve is not None:
            for t, h in curve:
                self.put(t, h)

    def put(self, t, h):
        check_time(t)
        self.samples[t] = h
        self.renew(t, four_of(((t, h),)))

    def take(self, t):
        self.samples.pop(t)
        self.renew(t, None)

    def renew(self, t, four):
        self.kept_fours[(0, t)] = four
        # From below, so that each stretch is joined of halves that are right already.
        s = t
        for level in range(TOP_LEVEL):
            s = s // 2
            halves = (self.kept_fours.get((level, 2 * s)), self.kept_fours.get((level, 2 * s + 1)))
            self.kept_fours[(level + 1, s)] = joined(halves[0], halves[1])

    def four(self, begin, end):
        four = None
        parts = stretches(begin, end)
        for stretch in parts:
            four = joined(four, self.kept_fours.get(stretch))
        self.looks += len(parts)
        return four

    def fours(self, window):
        # The whole window first, since what is refused adds no looks.
        check_window(window)
        return tuple([self.four(first, behind) for first, behind in columns_of(window)])

    def told(self):
        return curve_of(list(self.samples.items()))
