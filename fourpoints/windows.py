"""Windows (begin, wide, many), their columns, and the steps from one window to another."""

from fourpoints.errors import NoColumn, NotHalf
from fourpoints.wholes import is_scale, is_whole


def is_window(thing):
    return is_scale(thing)


def column_of(window, t):
    begin, wide, many = window
    k = (t - begin) // wide
    return k if 0 <= k < many else None


def times_of(window, k):
    begin, wide, many = window
    if not is_whole(k) or not 0 <= k < many:
        raise NoColumn("no column of the window has this number")
    first = begin + k * wide
    return (first, first + wide)


def columns_of(window):
    return [times_of(window, k) for k in range(window[2])]


def moved(window, c):
    begin, wide, many = window
    return (begin + c * wide, wide, many)


def widened(window):
    begin, wide, many = window
    return (begin, wide * 2, many)


def narrowed(window):
    begin, wide, many = window
    if wide % 2 == 1:
        raise NotHalf("columns of an odd width have no half")
    return (begin, wide // 2, many)


def with_columns(window, n):
    return (window[0], window[1], n)


def shared(one, other):
    begin, wide, many = one
    other_begin, other_wide, other_many = other
    ahead = other_begin - begin
    # No column is empty, so columns with the same times begin together and are as wide.
    if wide != other_wide or ahead % wide != 0:
        return ()
    steps = ahead // wide
    return tuple([(k, k - steps) for k in range(max(0, steps), min(many, other_many + steps))])
