"""Documents that are compared: by their layouts, and with holes for all fillings at once."""

from layoutsets.docs import Doc, filled, line, refuse_non_docs, text
from layoutsets.errors import TooLarge
from layoutsets.layouts import check_layout
from layoutsets.nodes import inner_first
from layoutsets.sets import LayoutSet, is_large

# Neither brackets nor small letters: with these a mark is put together around its signs.
SIGNS = "~^#*=+|:;.,!?@&$_-/0123456789ABCDEFGHIJKLMNOPQRSTUVWXYZ"


def parted(one, other):
    """None for two documents with the same layouts, otherwise the least layout that only one has."""
    mine, yours = LayoutSet(one), LayoutSet(other)
    apart = (mine - yours) | (yours - mine)
    return apart[0] if len(apart) > 0 else None


def always_alike(one, other):
    """None for two documents that are always alike, otherwise fillings and a layout that part them."""
    _check_pair(one, other)
    fillings = _marked_fillings(one, other)
    layout = parted(filled(one, **fillings), filled(other, **fillings))
    if layout is None:
        return None
    return fillings, layout


def check_parting(one, other, thing):
    """Whether the thing is a tuple of fillings and the layout by which they part the documents."""
    _check_pair(one, other)
    if not isinstance(thing, tuple) or len(thing) != 2:
        return False
    fillings, layout = thing
    if not _are_fillings(fillings, _names(one, other)) or check_layout(layout) is not None:
        return False
    mine, yours = filled(one, **fillings), filled(other, **fillings)
    if is_large(mine) or is_large(yours):
        return False
    return parted(mine, yours) == layout


def _check_pair(one, other):
    """Refuse what are not two documents that can be compared."""
    refuse_non_docs([one, other])
    if is_large(one) or is_large(other):
        raise TooLarge()


def _names(one, other):
    """The names of the holes of both, ascending, each once."""
    return sorted(set(one.holes + other.holes))


def _are_fillings(thing, names):
    """Whether it is a dict with a document without holes for each of the names, and nothing else."""
    if not isinstance(thing, dict) or len(thing) != len(names):
        return False
    for name in names:
        if name not in thing or not isinstance(thing[name], Doc) or thing[name].holes:
            return False
    return True


def _marked_fillings(one, other):
    """For each hole a text, a break and a text that cannot be mistaken for anything else.

    Each text has more signs of one kind in a row than one layout of the documents has in all, between
    a bracket and a letter: so wherever so many stand in a row, there is such a text, and it is known
    where it begins and ends.
    """
    bar = _bar(one, other)
    fillings = {}
    for name in _names(one, other):
        fillings[name] = text(f"({bar}{name}(") + line() + text(f"){bar}{name})")
    return fillings


def _bar(one, other):
    """One sign, more often than it can occur in a layout of either document."""
    mine, yours = _sign_counts(one.node), _sign_counts(other.node)
    counts = {sign: max(mine.get(sign, 0), yours.get(sign, 0)) for sign in SIGNS}
    rarest = min(SIGNS, key=lambda sign: counts[sign])
    return rarest * (counts[rarest] + 1)


def _sign_counts(node):
    """For each sign a number that its count in a layout of the node does not exceed."""
    made = {}
    for part in inner_first(node):
        made[part] = _counts_of(part, made)
    return made[node]


def _counts_of(node, made):
    """The sign counts of a node, once those of its inner nodes have been made."""
    if node.kind in ("text", "break"):
        string = node.own[0] or ""
        return {sign: string.count(sign) for sign in SIGNS if sign in string}
    if not node.inner:
        return {}
    counts = made[node.inner[0]]
    if len(node.inner) == 1:
        return counts
    more = made[node.inner[1]]
    both = {**counts, **more}
    if node.kind == "choice":
        return {sign: max(counts.get(sign, 0), more.get(sign, 0)) for sign in both}
    return {sign: counts.get(sign, 0) + more.get(sign, 0) for sign in both}
