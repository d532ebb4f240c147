"""Tests of plain values, for the files that take them from callers."""

MOST_STEPS = 40
LONGEST_NAME = 8


def is_whole(thing):
    """Whether it is an integer from 0 on."""
    return isinstance(thing, int) and not isinstance(thing, bool) and thing >= 0


def is_steps(thing):
    """Whether a document can be nested by it."""
    return is_whole(thing) and thing <= MOST_STEPS


def is_plain(thing):
    """Whether it is a string of characters from the space to ~."""
    return isinstance(thing, str) and all([" " <= sign <= "~" for sign in thing])


def is_name(thing):
    """Whether it is a name of a hole."""
    if not isinstance(thing, str) or not 1 <= len(thing) <= LONGEST_NAME:
        return False
    return all(["a" <= sign <= "z" for sign in thing])
