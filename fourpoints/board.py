"""A board: stores by names, drawn together; and curves that show that none of the four is to spare."""

from fourpoints.dots import dots_by, layers_text
from fourpoints.errors import NoName, NotApart
from fourpoints.fours import kept_of
from fourpoints.samples import curve_of
from fourpoints.store import Store
from fourpoints.tree import check_window
from fourpoints.wholes import is_whole
from fourpoints.windows import times_of

LETTERS = "abcdefghijklmnopqrstuvwxyz"
LONGEST_NAME = 8


def is_name(thing):
    # Not islower: that would take letters beyond a to z too.
    return isinstance(thing, str) and 1 <= len(thing) <= LONGEST_NAME and all([sign in LETTERS for sign in thing])


class Board:
    def __init__(self):
        self.stores = {}

    def store(self, name):
        if not is_name(name):
            raise NoName("this is no name of one to eight small letters")
        if name not in self.stores:
            self.stores[name] = Store()
        return self.stores[name]

    def names(self):
        return sorted(self.stores)

    def picture(self, window, heights):
        # A board without stores asks none of them, so the window is checked here.
        check_window(window)
        layers = [(name[0], dots_by(self.stores[name].fours(window), window, heights)) for name in self.names()]
        return layers_text(layers, window[2], heights[2])

    def kept(self, window):
        check_window(window)
        return sum([len(kept_of(store.fours(window))) for store in self.stores.values()])


def parting(window, k, part):
    first, behind = times_of(window, k)
    check_parting(window, k, part)
    # The last one shows in the column behind its own only if it stands near that, the first one likewise.
    begin = behind - 4 if part == 1 else first
    samples = [(begin, 1), (begin + 1, 3), (begin + 2, 0), (begin + 3, 2)]
    # A level piece beside the column: it slopes into another row if the sample that bears it is missing.
    if part == 0:
        samples.append((begin - 1, 1))
    if part == 1:
        # Two times on: a piece that ends where the column behind begins is not met there.
        samples.append((behind + 1, 2))
    return (curve_of(samples), (0, 1, 4))


def check_parting(window, k, part):
    if window[1] < 4:
        raise NotApart("a column with fewer than four times has no four unlike samples")
    if not is_whole(part) or not 0 <= part <= 3:
        raise NotApart("a four has the parts 0, 1, 2 and 3 alone")
    if part == 0 and k == 0:
        raise NotApart("no column is ahead in which the first sample could show")
    if part == 1 and k == window[2] - 1:
        raise NotApart("no column is behind in which the last sample could show")
