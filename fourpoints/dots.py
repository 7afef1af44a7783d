"""Heights (low, tall, rows), the dots of a curve in a window, and their picture."""

from fourpoints.fours import kept_of
from fourpoints.samples import part_of
from fourpoints.wholes import is_scale
from fourpoints.windows import columns_of


def is_heights(thing):
    return is_scale(thing)


def dots_of(curve, window, heights):
    begin, wide, many = window
    counting = part_of(curve, begin, begin + many * wide)
    return tuple([column_dots(counting, times, heights) for times in columns_of(window)])


def dots_by(fours, window, heights):
    return dots_of(kept_of(fours), window, heights)


def column_dots(samples, times, heights):
    met = rows_met(samples, times, heights)
    if len(met) == 0:
        return None
    # What a column meets has no gap, so the rows between the outermost ones have dots too.
    least = max(min(met), 0)
    greatest = min(max(met), heights[2] - 1)
    return (least, greatest) if least <= greatest else None


def rows_met(samples, times, heights):
    # The rows of the samples and of each piece's two ends in the column, as if rows went on above and below.
    first, behind = times
    met = [row_of(h, 1, heights) for t, h in part_of(samples, first, behind)]
    for one, other in zip(samples, samples[1:]):
        if one[0] < behind and first < other[0]:
            met.append(row_at(one, other, max(first, one[0]), heights))
            met.append(row_at(one, other, min(behind, other[0]), heights))
    return met


def row_at(one, other, t, heights):
    # The height at t may be broken: it is counted in parts, as many to one as the piece has times, to stay whole.
    parts = other[0] - one[0]
    return row_of(one[1] * parts + (other[1] - one[1]) * (t - one[0]), parts, heights)


def row_of(height, parts, heights):
    low, tall, rows = heights
    return (height - low * parts) // (tall * parts)


def dots_text(dots, rows):
    return layers_text([("#", dots)], len(dots), rows)


def layers_text(layers, many, rows):
    # A layer is a sign and the dots that it stands for; where several have a dot, the one ahead is seen.
    return "".join([line_text(layers, many, row) for row in range(rows - 1, -1, -1)])


def line_text(layers, many, row):
    return "".join([sign_at(layers, k, row) for k in range(many)]) + "\n"


def sign_at(layers, k, row):
    for sign, dots in layers:
        if has_dot(dots[k], row):
            return sign
    return "."


def has_dot(pair, row):
    return pair is not None and pair[0] <= row <= pair[1]
