"""Samples (t, h), curves of them, and the text of a curve."""

from fourpoints.errors import NoText
from fourpoints.wholes import is_whole

FIGURES = "0123456789"


def is_sample(thing):
    return isinstance(thing, tuple) and len(thing) == 2 and is_whole(thing[0]) and is_whole(thing[1])


def times_rise(samples):
    return all([one[0] < other[0] for one, other in zip(samples, samples[1:])])


def is_curve(thing):
    return isinstance(thing, tuple) and all([is_sample(sample) for sample in thing]) and times_rise(thing)


def curve_of(samples):
    heights = {}
    for t, h in samples:
        heights[t] = h
    return tuple([(t, heights[t]) for t in sorted(heights)])


def part_of(curve, begin, end):
    return tuple([(t, h) for t, h in curve if begin <= t < end])


def curve_text(curve):
    return "".join([f"{t} {h}\n" for t, h in curve])


def read_curve(text):
    if not isinstance(text, str):
        raise NoText("this is no text at all")
    # Not splitlines: that would take other signs than the line feed for a line's end.
    lines = text.split("\n")
    if lines[-1] != "":
        raise NoText("the last line has no line feed")
    curve = tuple([read_sample(line) for line in lines[:-1]])
    if not times_rise(curve):
        raise NoText("a line's time is not behind that of the line ahead")
    return curve


def read_sample(line):
    words = line.split(" ")
    if len(words) != 2:
        raise NoText("a line is not two numbers with a blank between")
    return (read_number(words[0]), read_number(words[1]))


def read_number(word):
    if not is_number_word(word):
        raise NoText("a number is not written as a curve's text writes it")
    number = 0
    # Figure by figure, since Python's int refuses a text of some thousand figures.
    for figure in without_minus(word):
        number = number * 10 + int(figure)
    return -number if word.startswith("-") else number


def is_number_word(word):
    if word == "0":
        return True
    figures = without_minus(word)
    # Not isdigit: that would take figures of other scripts too.
    return figures != "" and not figures.startswith("0") and all([figure in FIGURES for figure in figures])


def without_minus(word):
    return word[1:] if word.startswith("-") else word
