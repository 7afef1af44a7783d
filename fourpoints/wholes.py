"""Whole numbers, as all other files ask for them."""


def is_whole(thing):
    # Python counts True and False as ints; the program does not.
    return isinstance(thing, int) and not isinstance(thing, bool)
