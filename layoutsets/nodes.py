"""The nodes that documents are built from.

Nothing here recurses, because a document may be deeper than Python's stack.
"""

OWN_VALUES = {
    "text": 1, "break": 1, "hole": 1, "join": 0,
    "choice": 0, "nested": 1, "group": 0, "flattened": 0,
}
INNER_NODES = {
    "text": 0, "break": 0, "hole": 0, "join": 2,
    "choice": 2, "nested": 1, "group": 1, "flattened": 1,
}


class Node:
    """One part of a document and all that is below it. It never changes.

    Nodes may be shared within a document and between documents. They have no
    equality of their own, so that a dict can tell which ones have been visited.
    """

    def __init__(self, kind, own, inner):
        self.kind = kind
        self.own = own
        self.inner = inner
        self.gaps = _gaps(kind, own, inner)
        self.broken, self.flat = _counts(kind, own, inner)
        size, most = 1, self.broken
        for part in inner:
            size = size + part.size
            if part.most > most:
                most = part.most
        self.size = size
        self.most = most
        self.settled = _is_settled(kind, self.flat, inner)


def _gaps(kind, own, inner):
    """The names of the holes, ascending, each once."""
    if kind == "hole":
        return own
    gaps = ()
    for part in inner:
        if part.gaps and part.gaps != gaps:
            gaps = tuple(sorted(set(gaps + part.gaps)))
    return gaps


def _counts(kind, own, inner):
    """The numbers of broken and of flat ways."""
    if kind == "break" and own[0] is None:
        return 1, 0
    if not inner:
        return 1, 1
    first, last = inner[0], inner[-1]
    if kind == "join":
        return first.broken * last.broken, first.flat * last.flat
    if kind == "choice":
        return first.broken + last.broken, first.flat + last.flat
    if kind == "group":
        return first.broken + first.flat, first.flat
    if kind == "flattened":
        return first.flat, first.flat
    return first.broken, first.flat


def _is_settled(kind, flat, inner):
    """Whether each flat layout is surely a broken one, too."""
    if kind in ("group", "flattened") or flat == 0:
        return True
    return kind != "break" and all([part.settled for part in inner])


def inner_first(node):
    """The nodes that it consists of, each once and behind those that it is built from."""
    done = {}
    todo = [node]
    while todo:
        top = todo[-1]
        waiting = [part for part in top.inner if part not in done]
        if waiting:
            todo.extend(waiting)
            continue
        todo.pop()
        done[top] = True
    return list(done)


def last_uses(ordered):
    """Of nodes that stand inner first, the place of the last one that each is built into.

    What has been worked out for a node is not needed behind it, and there may be many and large ones.
    """
    return {part: k for k, whole in enumerate(ordered) for part in whole.inner}


def shape_of(node):
    """The form of a node; nodes that occur several times share theirs."""
    made = {}
    for part in inner_first(node):
        made[part] = (part.kind, *part.own, *[made[inner] for inner in part.inner])
    return made[node]


def same_nodes(one, other):
    """Whether two nodes are built in the same way."""
    seen = {}
    todo = [(one, other)]
    while todo:
        pair = todo.pop()
        if pair in seen:
            continue
        seen[pair] = True
        left, right = pair
        if left.kind != right.kind or left.own != right.own or left.size != right.size:
            return False
        todo.extend(list(zip(left.inner, right.inner)))
    return True


def filled_node(node, fillings):
    """The node with the fillings, nodes by names, in the place of its holes."""
    made = {}
    todo = [node]
    while todo:
        top = todo[-1]
        waiting = _waiting(top, fillings, made)
        if waiting:
            todo.extend(waiting)
            continue
        todo.pop()
        # A shared node comes up again after it has been made.
        if top not in made:
            made[top] = _refilled(top, fillings, made)
    return made[node]


def _waiting(node, fillings, made):
    """The inner nodes that must be made before the node can be."""
    if not _is_touched(node, fillings):
        return []
    return [part for part in node.inner if part not in made]


def _is_touched(node, fillings):
    """Whether a hole of the node is filled."""
    return any([name in fillings for name in node.gaps])


def _refilled(node, fillings, made):
    """The node with its holes filled, once that has been made of its inner nodes."""
    if not _is_touched(node, fillings):
        return node
    if node.kind == "hole":
        return fillings[node.gaps[0]]
    return Node(node.kind, node.own, tuple([made[part] for part in node.inner]))


def stacked_node(pieces):
    """The node that is made of pieces: kind, own values, number of inner nodes.

    Each piece stands ahead of its inner ones, and among these the last is first.
    """
    made = []
    for kind, own, many in pieces[::-1]:
        first = len(made) - many
        inner = tuple(made[first:])
        del made[first:]
        made.append(Node(kind, own, inner))
    return made[0]
