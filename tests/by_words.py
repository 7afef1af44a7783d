"""What several tests need: slow answers by the words of the document, and cases made by chance with a seed."""

import inspect
from fractions import Fraction

END = 2 ** 40
SIXTY = 10 ** 60 - 1
NO_BORDERS = (END + 1, -END - 1, 2 ** 41, SIXTY, -SIXTY, True, False, None, "", "0", (), (0,), [], [0], {}, b"0",
              object(), int)
NO_TIMES = (END,) + NO_BORDERS
# Times beside the borders of great and small stretches.
BESIDE = sorted({sign * 2 ** level + step for level in (0, 1, 2, 7, 20, 39, 40) for sign in (-1, 1)
                 for step in (-2, -1, 0, 1, 2) if -END <= sign * 2 ** level + step <= END} | {0})
# Windows that have other times than tree times, and such as just keep to them.
OUTSIDE = ((-END - 1, 1, 1), (-END - 1, 2, 3), (END, 1, 1), (END - 1, 1, 2), (END - 1, 2, 1), (0, END, 2),
           (0, END + 1, 1), (END - 11, 1, 12), (-END, END, 3), (1 - END, END, 2), (-SIXTY, 1, 12),
           (SIXTY, 1, 12), (0, SIXTY, 1), (0, 1, SIXTY), (-5, SIXTY, 12), (-SIXTY, SIXTY, 2))
JUST_WITHIN = ((-END, 1, 12), (END - 12, 1, 12), (-END, END, 2), (1 - END, 2 * END - 1, 1), (END - 1, 1, 1))


def four_by_words(curve):
    """The four by the words of the document: each sample held against all others."""
    if not curve:
        return None
    first = [s for s in curve if all(s[0] <= o[0] for o in curve)]
    last = [s for s in curve if all(s[0] >= o[0] for o in curve)]
    low = [s for s in curve if all(s[1] < o[1] or (s[1] == o[1] and s[0] <= o[0]) for o in curve)]
    high = [s for s in curve if all(s[1] > o[1] or (s[1] == o[1] and s[0] <= o[0]) for o in curve)]
    assert len(first) == len(last) == len(low) == len(high) == 1
    return (first[0], last[0], low[0], high[0])


def fours_by_words(curve, window):
    begin, wide, many = window
    return tuple(four_by_words([s for s in curve if begin + k * wide <= s[0] < begin + (k + 1) * wide])
                 for k in range(many))


def met_by_the_words(curve, window, k):
    """The heights that a column meets, as pairs (least, greatest) of broken numbers, one for each sample and piece."""
    begin, wide, many = window
    counting = [s for s in curve if any(begin + j * wide <= s[0] < begin + (j + 1) * wide for j in range(many))]
    x, z = begin + k * wide, begin + (k + 1) * wide
    met = [(Fraction(h), Fraction(h)) for t, h in counting if x <= t < z]
    for (t, h), (u, g) in zip(counting, counting[1:]):
        if t < z and x < u:
            ends = [h + Fraction(g - h, u - t) * (time - t) for time in (max(x, t), min(z, u))]
            met.append((min(ends), max(ends)))
    return met


def dots_by_words(curve, window, heights):
    """The dots by the words of the document: each row of each column by itself."""
    low, tall, rows = heights
    told = []
    for k in range(window[2]):
        met = met_by_the_words(curve, window, k)
        numbers = [r for r in range(rows)
                   if any(least < low + (r + 1) * tall and low + r * tall <= greatest for least, greatest in met)]
        assert numbers == list(range(numbers[0], numbers[-1] + 1)) if numbers else True
        told.append((numbers[0], numbers[-1]) if numbers else None)
    return tuple(told)


def some_time(chance):
    if chance.randrange(3) == 0:
        return chance.choice([t for t in BESIDE if t < END])
    if chance.randrange(3) == 0:
        return chance.randrange(-END, END)
    return chance.randrange(-40, 40)


def some_window(chance):
    many = chance.randrange(1, 13)
    if chance.randrange(3) == 0:
        wide = chance.randrange(1, 2 * END // many + 1)
        return (chance.randrange(-END, END - wide * many + 1), wide, many)
    return (chance.randrange(-50, 50), chance.randrange(1, 12), many)


class SlowStore:
    """A store by the words of the document: behind each deed that is not undone all samples are kept as they were."""

    def __init__(self, curve=()):
        self.states = [dict(curve)]
        self.undone = []
        self.done = []

    def samples(self):
        return self.states[-1]

    def curve(self):
        return tuple(sorted(self.samples().items()))

    def put(self, t, h):
        before = self.samples().get(t)
        self.deed(t, {**self.samples(), t: h})
        return before

    def take(self, t):
        before = self.samples()[t]
        self.deed(t, {u: h for u, h in self.samples().items() if u != t})
        return before

    def deed(self, t, samples):
        self.states.append(samples)
        self.undone.append(t)
        self.done.append(t)

    def undo(self):
        if not self.undone:
            return False
        self.states.pop()
        self.done.append(self.undone.pop())
        return True


def some_deed(chance, store, slow, time=some_time, heights=6):
    """Does one put, take or undo to both; tells their answers."""
    samples = slow.samples()
    way = chance.randrange(7)
    if way < 3 and len(samples) < 60:
        t, h = time(chance), chance.randrange(-heights, heights)
        return store.put(t, h), slow.put(t, h)
    if way == 3 and samples:
        t = chance.choice(sorted(samples))
        h = chance.choice((samples[t], samples[t], chance.randrange(-heights, heights)))
        return store.put(t, h), slow.put(t, h)
    if way < 6 and samples:
        t = chance.choice(sorted(samples))
        return store.take(t), slow.take(t)
    return store.undo(), slow.undo()


def arguments_of(thing):
    """The arguments' names and defaults of a function, a method or a class."""
    return [(p.name, p.default) if p.default is not p.empty else p.name
            for p in inspect.signature(thing).parameters.values()]
