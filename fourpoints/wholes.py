"""Whole numbers, and the form of three of them that windows and heights share."""


def is_whole(thing):
    # Python counts True and False as ints; the program does not.
    return isinstance(thing, int) and not isinstance(thing, bool)


def is_scale(thing):
    # Where equal steps begin, how long each is, how many they are: a window has columns, heights have rows.
    if not isinstance(thing, tuple) or len(thing) != 3:
        return False
    return all([is_whole(part) for part in thing]) and thing[1] >= 1 and thing[2] >= 1
