"""Contexts: which layouts have room in them, and documents that are compared by that."""

from layoutsets.checks import is_whole
from layoutsets.errors import InvalidPlace, TooLarge
from layoutsets.layouts import refuse_non_layouts
from layoutsets.sets import LayoutSet

MOST_LAYOUTS = 500


def fits(layout, context):
    """Whether each line of the layout has room in the context."""
    refuse_non_layouts([layout])
    _refuse_non_context(context)
    return _has_room(layout, context)


def fewest(doc, context):
    """The least number of lines of a layout of the document that fits, or None."""
    rows = LayoutSet(doc).rows
    _refuse_non_context(context)
    return min([len(row) for row in rows if _has_room(row, context)], default=None)


def as_good(one, other):
    """None if one is as good as other, otherwise the least context that shows that it is not."""
    mine, yours = LayoutSet(one), LayoutSet(other)
    if len(mine) > MOST_LAYOUTS or len(yours) > MOST_LAYOUTS:
        raise TooLarge()
    rivals = _needs_of(mine.rows)
    contexts = [_least_context(need, rivals) for need in _needs_of(yours.rows)]
    return min([context for context in contexts if context is not None], default=None)


def front(doc):
    """The breadths and numbers of lines of the layouts, ascending, without those that another one makes needless."""
    kept = []
    for breadth, lines in sorted(set([(max(_ends(row)), len(row)) for row in LayoutSet(doc).rows])):
        if not kept or lines < kept[-1][1]:
            kept.append((breadth, lines))
    return kept


def _refuse_non_context(thing):
    """Refuse what is no context."""
    if not isinstance(thing, tuple) or len(thing) != 3 or not all([is_whole(number) for number in thing]):
        raise InvalidPlace(thing)


def _ends(layout):
    """How far each line reaches to the right."""
    return [indent + len(string) for indent, string in layout]


def _has_room(layout, context):
    """Whether what is known to be a layout fits."""
    first_room, other_room, behind = context
    ends = _ends(layout)
    ends[-1] = ends[-1] + behind
    return ends[0] <= first_room and max(ends[1:], default=0) <= other_room


def _needs_of(rows):
    """All that decides where the layouts fit, each once: see _need_of."""
    return sorted(set([_need_of(row) for row in rows]))


def _need_of(layout):
    """The number of lines, and how far the first one, those between and the last one reach."""
    ends = _ends(layout)
    return len(ends), ends[0], max(ends[1:-1], default=0), ends[-1]


def _least_context(need, rivals):
    """The least context in which a layout with this need fits, and none with a rival need and as few lines; or None.

    A rival that does not fit does not fit with less room either. So the room is the least one: for the first
    line what that needs, and for the others what they need with the least that can follow.
    """
    lines, first, middle, last = need
    rivals = [rival for rival in rivals if rival[0] <= lines and rival[1] <= first]
    if lines == 1:
        return None if rivals else (first, 0, 0)
    # One line is kept out by what follows it alone.
    behind = max([0] + [first - rival[1] + 1 for rival in rivals if rival[0] == 1])
    room = max(middle, last + behind)
    rivals = [rival for rival in rivals if rival[0] > 1 and rival[2] <= room]
    # Where the last line of a rival is not longer, that one fits as well, also if there is more room and more follows.
    if any([rival[3] <= last for rival in rivals]):
        return None
    return first, room, max([behind] + [room - rival[3] + 1 for rival in rivals])
