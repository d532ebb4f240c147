"""Sets of layouts, and the layouts that a document stands for."""

from layoutsets.checks import MOST_STEPS, is_whole
from layoutsets.docs import Doc, refuse_holes, refuse_non_docs, text
from layoutsets.errors import NotALayoutSet, NotFound, OutOfRange, TooLarge
from layoutsets.layouts import check_layout, joined_rows, moved_rows, refuse_non_layouts
from layoutsets.nodes import Node, inner_first, last_uses

MOST_WAYS = 5000


class LayoutSet:
    """The set of the layouts of a document. It never changes."""

    def __init__(self, doc):
        refuse_non_docs([doc])
        refuse_holes(doc)
        if is_large(doc):
            raise TooLarge()
        self.rows = sorted(set(_layouts_of(doc.node)))
        self.ranks = _numbered(self.rows)

    @classmethod
    def of(cls, layouts):
        """The set of the layouts in a tuple or a list."""
        refuse_non_layouts(layouts)
        return _set_of(sorted(set(layouts)))

    def __len__(self):
        return len(self.rows)

    def __contains__(self, x):
        # True and 1 are the same key, so that only layouts may be looked up.
        return check_layout(x) is None and x in self.ranks

    def __eq__(self, other):
        if not isinstance(other, LayoutSet):
            return False
        return self.rows == other.rows

    def __and__(self, other):
        _refuse_non_sets(other)
        return _set_of([row for row in self.rows if row in other.ranks])

    def __or__(self, other):
        _refuse_non_sets(other)
        more = [row for row in other.rows if row not in self.ranks]
        return _set_of(sorted(self.rows + more))

    def __sub__(self, other):
        _refuse_non_sets(other)
        return _set_of([row for row in self.rows if row not in other.ranks])

    def __getitem__(self, at):
        if not is_whole(at) or at >= len(self.rows):
            raise OutOfRange(len(self.rows))
        return self.rows[at]

    def __iter__(self):
        raise TypeError("a layout set is walked over by its method walk")

    def rank(self, layout):
        """The number of the layout, in ascending order, from 0."""
        if layout not in self:
            raise NotFound()
        return self.ranks[layout]

    def walk(self):
        """Yield the layouts, ascending."""
        for row in self.rows:
            yield row

    def within(self, other):
        """Whether all its layouts are in the other set."""
        _refuse_non_sets(other)
        return all([row in other.ranks for row in self.rows])

    def doc(self):
        """A document whose layouts are just these, each in one way."""
        if not self.rows:
            raise NotFound()
        return Doc(_folded("choice", _only_nodes(self.rows), {}))


def _refuse_non_sets(thing):
    """Refuse what is not a layout set."""
    if not isinstance(thing, LayoutSet):
        raise NotALayoutSet(thing)


def _set_of(rows):
    """The set of layouts that ascend already, each once."""
    made = LayoutSet(text())
    made.rows = rows
    made.ranks = _numbered(rows)
    return made


def _numbered(rows):
    """The numbers of the layouts."""
    return {row: k for k, row in enumerate(rows)}


def is_large(doc):
    """Whether the document, or one that it is built from, has too many ways."""
    return doc.node.most > MOST_WAYS


def _layouts_of(node):
    """The layouts of a node without holes, each as often as it has ways."""
    ordered = inner_first(node)
    last_use = last_uses(ordered)
    made = {}
    for k, whole in enumerate(ordered):
        made[whole] = _ways_of(whole, made)
        for part in whole.inner:
            if last_use[part] == k:
                made.pop(part, None)
    broken, steps, _ = made[node]
    return _all_moved(broken, steps)


def _ways_of(node, made):
    """The broken layouts of a node, the steps by which they are still to be moved, and its flat strings.

    They are moved as late as possible, so that a chain of nested documents does not copy them each time.
    """
    if node.kind == "text":
        return _rows_of(node.own), 0, list(node.own)
    if node.kind == "break":
        return [((0, ""), (0, ""))], 0, [flat for flat in node.own if flat is not None]
    broken, steps, flat = made[node.inner[0]]
    if node.kind == "nested":
        return broken, steps + node.own[0], flat
    if node.kind == "group":
        return broken + _rows_of(flat), steps, flat
    if node.kind == "flattened":
        return _rows_of(flat), 0, flat
    more_broken, more_steps, more_flat = made[node.inner[1]]
    broken, more_broken = _all_moved(broken, steps), _all_moved(more_broken, more_steps)
    if node.kind == "choice":
        return broken + more_broken, 0, flat + more_flat
    joins = [joined_rows(x, y) for x in broken for y in more_broken]
    return joins, 0, [x + y for x in flat for y in more_flat]


def _rows_of(strings):
    """The layouts of one line with these strings."""
    return [((0, string),) for string in strings]


def _all_moved(layouts, steps):
    """The layouts moved by the steps."""
    if steps == 0:
        return layouts
    return [moved_rows(layout, steps) for layout in layouts]


def _only_nodes(layouts):
    """For each layout a node with this layout alone; equal lines share theirs."""
    breaks, lines, joins = {}, {}, {}
    nodes = []
    for layout in layouts:
        pieces = [Node("text", layout[0][1:], ())]
        for row in layout[1:]:
            if row[0] not in breaks:
                breaks[row[0]] = _break_node(row[0])
            if row not in lines:
                lines[row] = Node("join", (), (breaks[row[0]], Node("text", row[1:], ())))
            pieces.append(lines[row])
        nodes.append(_folded("join", pieces, joins))
    return nodes


def _break_node(indent):
    """The node of a break whose second line has this indent."""
    made = Node("break", (None,), ())
    while indent > 0:
        made = Node("nested", (min(indent, MOST_STEPS),), (made,))
        indent = indent - MOST_STEPS
    return made


def _folded(kind, nodes, made):
    """One node of all of them, by halves, so that it does not become deep; equal halves share theirs."""
    while len(nodes) > 1:
        halves = []
        for k in range(0, len(nodes) - 1, 2):
            pair = (nodes[k], nodes[k + 1])
            if pair not in made:
                made[pair] = Node(kind, (), pair)
            halves.append(made[pair])
        nodes = halves + nodes[2 * len(halves):]
    return nodes[0]
