"""The four of a curve: its first, its last, its lowest and its highest sample."""

from fourpoints.samples import curve_of
from fourpoints.windows import column_of


def height_of(sample):
    return sample[1]


def four_of(curve):
    if len(curve) == 0:
        return None
    # Of several equal ones min and max tell the one that stands first, which is the earliest.
    return (curve[0], curve[-1], min(curve, key=height_of), max(curve, key=height_of))


def joined(one, other):
    if one is None:
        return other
    if other is None:
        return one
    # Where both are as low or as high, the one's sample is the earlier.
    lowest = one[2] if height_of(one[2]) <= height_of(other[2]) else other[2]
    highest = one[3] if height_of(one[3]) >= height_of(other[3]) else other[3]
    return (one[0], other[1], lowest, highest)


def fours_of(curve, window):
    parts = [[] for k in range(window[2])]
    for t, h in curve:
        k = column_of(window, t)
        if k is not None:
            parts[k].append((t, h))
    return tuple([four_of(part) for part in parts])


def kept_of(fours):
    samples = []
    for four in fours:
        if four is not None:
            samples.extend(four)
    # One sample may stand in several places of a four; curve_of tells it once.
    return curve_of(samples)
