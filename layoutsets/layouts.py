"""Layouts: tuples of lines, each an indent and a string."""

from layoutsets.checks import is_plain, is_whole
from layoutsets.errors import InvalidLayout, InvalidSteps


def check_layout(thing):
    """None for a layout, otherwise the first problem."""
    if not isinstance(thing, tuple) or len(thing) == 0:
        return ("form",)
    for k, row in enumerate(thing):
        if not _is_line(row):
            return ("line", k)
    if thing[0][0] != 0:
        return ("first",)
    return None


def _is_line(thing):
    """Whether it is an indent with a string."""
    if not isinstance(thing, tuple) or len(thing) != 2:
        return False
    return is_whole(thing[0]) and is_plain(thing[1])


def refuse_non_layouts(things):
    """Refuse the first thing that is not a layout."""
    for thing in things:
        problem = check_layout(thing)
        if problem is not None:
            raise InvalidLayout(problem)


def joined_layout(x, y):
    """The join of two layouts."""
    refuse_non_layouts([x, y])
    return joined_rows(x, y)


def joined_rows(x, y):
    """The join of what is known to be two layouts."""
    indent, string = x[-1]
    return x[:-1] + ((indent, string + y[0][1]),) + y[1:]


def moved(x, k):
    """The layout with each line but the first one indented by k more."""
    refuse_non_layouts([x])
    if not is_whole(k):
        raise InvalidSteps(k)
    return moved_rows(x, k)


def moved_rows(x, k):
    """What is known to be a layout, moved by what is known to be a number from 0 on."""
    return x[:1] + tuple([(indent + k, string) for indent, string in x[1:]])


def shown(layout, indent=0):
    """The lines as strings, all but the first one behind their spaces."""
    refuse_non_layouts([layout])
    if not is_whole(indent):
        raise InvalidSteps(indent)
    return [layout[0][1]] + [" " * (indent + own) + string for own, string in layout[1:]]
