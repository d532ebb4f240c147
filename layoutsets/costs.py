"""Costs of layouts at a place, and the best layouts of documents."""

from layoutsets.checks import is_whole
from layoutsets.docs import refuse_holes, refuse_non_docs
from layoutsets.errors import InvalidPlace, InvalidWidth, NotFound
from layoutsets.layouts import refuse_non_layouts

ENTER = 0
TURN = 1
MERGE = 2

PAGE = 50


def cost_of(layout, *, width, column=0, indent=0):
    """The excess of the layout at the place, and the number of its lines."""
    refuse_non_layouts([layout])
    _refuse_wrong_numbers(width, column, indent)
    ends = [indent + own + len(string) for own, string in layout]
    ends[0] = column + len(layout[0][1])
    return sum([max(0, end - width) for end in ends]), len(layout)


def best(doc, *, width, column=0, indent=0):
    """The layout of the document with the least cost at the place, and of several the least one."""
    refuse_non_docs([doc])
    refuse_holes(doc)
    _refuse_wrong_numbers(width, column, indent)
    if doc.ways == 0:
        raise NotFound()
    search = Search(width, column, indent)
    search.run(doc.node)
    ending = min(list(search.states.values()))
    full, rows, own, begun = ending[2:]
    return (*[row for page in full for row in page], *rows, (own, begun))


def _refuse_wrong_numbers(width, column, indent):
    """Refuse a width or a place that is none."""
    if not is_whole(width):
        raise InvalidWidth(width)
    for number in (column, indent):
        if not is_whole(number):
            raise InvalidPlace(number)


class Search:
    """The states that are reached when a document is written from its beginning on, in all its ways.

    A state is a tuple: the excess up to here, the number of lines, the finished lines, and the indent and
    the string of the line that is begun. The finished lines are in pages of as many lines each and a last one
    that is not full, so that a new line does not copy them all; in states with as many lines their order is
    that of the lines themselves.

    For each column at which the line that is begun ends only the least state is kept, and one for all columns
    from the width on: whatever follows costs the same behind two such states and does not turn their order,
    so that only the least one can come to be the best layout.
    """

    def __init__(self, width, column, indent):
        self.limit = width
        self.left = indent
        self.states = {min(column, width): (max(0, column - width), 1, (), (), 0, "")}
        self.kept = []
        self.todo = []

    def run(self, node):
        """Write the node behind all states."""
        self.todo.append((ENTER, node, False, 0))
        while self.todo:
            act, part, flat, steps = self.todo.pop()
            if act == ENTER:
                self.enter(part, flat, steps)
            elif act == TURN:
                self.turn()
            else:
                self.states = _merged(self.kept.pop(), self.states)

    def enter(self, node, flat, steps):
        """Write a node, or note what is to be done for it."""
        if (node.flat if flat else node.broken) == 0:
            self.states = {}
            return
        # All joins and nested ones on the way have layouts, too.
        while node.kind in ("join", "nested"):
            if node.kind == "join":
                self.todo.append((ENTER, node.inner[1], flat, steps))
            else:
                steps = steps + node.own[0]
            node = node.inner[0]
        if node.kind == "break" and not flat:
            self.states = _broken(self.states, steps, self.left, self.limit)
        elif node.kind in ("text", "break"):
            self.states = _written(self.states, node.own[0], self.limit)
        elif node.kind == "choice":
            self.fork((ENTER, node.inner[0], flat, steps), (ENTER, node.inner[1], flat, steps))
        elif node.kind == "flattened":
            self.todo.append((ENTER, node.inner[0], True, steps))
        elif flat or node.inner[0].settled:
            self.todo.append((ENTER, node.inner[0], flat, steps))
        else:
            self.fork((ENTER, node.inner[0], False, steps), (ENTER, node.inner[0], True, steps))

    def fork(self, first, second):
        """Note that both are to be done, from the same states."""
        self.kept.append(self.states)
        self.todo.append((MERGE, None, False, 0))
        self.todo.append(second)
        self.todo.append((TURN, None, False, 0))
        self.todo.append(first)

    def turn(self):
        """Keep the states behind the first branch, and go back to those before it."""
        behind = self.states
        self.states = self.kept.pop()
        self.kept.append(behind)


def _written(states, string, width):
    """The states once the string has been written behind them."""
    if not string:
        return states
    made = {}
    for column, (excess, lines, full, rows, own, begun) in states.items():
        end = column + len(string)
        state = (excess + max(0, end - width), lines, full, rows, own, begun + string)
        at = min(end, width)
        if at not in made or state < made[at]:
            made[at] = state
    return made


def _broken(states, steps, indent, width):
    """The states once a new line has been begun behind them."""
    excess, lines, full, rows, own, begun = min(list(states.values()))
    rows = rows + ((own, begun),)
    if len(rows) == PAGE:
        full, rows = full + (rows,), ()
    column = indent + steps
    return {min(column, width): (excess + max(0, column - width), lines + 1, full, rows, steps, "")}


def _merged(one, other):
    """The states of both, of two at the same column the lesser one."""
    made = {column: one[column] for column in one}
    for column, state in other.items():
        if column not in made or state < made[column]:
            made[column] = state
    return _pruned(made)


def _pruned(states):
    """The states without those that cannot come to be the best layout, because of a lesser one further left.

    Whatever follows never costs more further left. The order can be turned only where one of the strings
    is the beginning of the other one, so that the next character decides: there both are kept.
    """
    kept = {}
    least = None
    for column in sorted(states):
        state = states[column]
        if least is None or state < least:
            least = state
            kept[column] = state
        elif state[:5] == least[:5] and state[5].startswith(least[5]):
            kept[column] = state
    return kept
