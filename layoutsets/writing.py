"""Documents as strings."""

from layoutsets.checks import MOST_STEPS, is_name
from layoutsets.docs import Doc, refuse_non_docs
from layoutsets.errors import Unreadable
from layoutsets.nodes import INNER_NODES, Node, inner_first, last_uses

CLOSING = {"join": ")", "choice": ")", "nested": ">", "group": "]", "flattened": "}"}
PAIRS = {"+": "join", "|": "choice"}

PART = 0
PAIR = 1
END = 2


def written(doc):
    """The string that tells how the document is built."""
    refuse_non_docs([doc])
    ordered = inner_first(doc.node)
    last_use = last_uses(ordered)
    made = {}
    for k, whole in enumerate(ordered):
        made[whole] = _written_node(whole, [made[part] for part in whole.inner])
        for part in whole.inner:
            if last_use[part] == k:
                made.pop(part, None)
    return made[doc.node]


def _written_node(node, inner):
    """The string for a node, of the strings for its inner ones."""
    if node.kind == "text":
        return _quoted(node.own[0])
    if node.kind == "break":
        return "!" if node.own[0] is None else "_" + _quoted(node.own[0])
    if node.kind == "hole":
        return node.own[0]
    if node.kind == "join":
        return f"({inner[0]} + {inner[1]})"
    if node.kind == "choice":
        return f"({inner[0]} | {inner[1]})"
    if node.kind == "nested":
        return f"<{node.own[0]} {inner[0]}>"
    return "[" + inner[0] + "]" if node.kind == "group" else "{" + inner[0] + "}"


def _quoted(string):
    """The string in quotes."""
    return '"' + string.replace("\\", "\\\\").replace('"', '\\"') + '"'


def read(string):
    """The document that is written so."""
    if not isinstance(string, str):
        raise Unreadable(0)
    reader = Reader(string)
    reader.run()
    if reader.at < len(string):
        raise Unreadable(reader.at)
    return Doc(reader.made[0])


def _is_number(word):
    """Whether it is a number of steps as it is written."""
    return word in [str(steps) for steps in range(MOST_STEPS + 1)]


class Reader:
    """A string that is read from its beginning on, up to the first character that cannot stand there.

    What is read up to a place can always be ended to a written document, so that this character is also
    the first one behind the longest beginning of one.
    """

    def __init__(self, string):
        self.string = string
        self.at = 0
        self.made = []
        self.todo = []

    def run(self):
        """Read one document and leave its node as the only one that is made."""
        self.todo.append((PART, "", ()))
        while self.todo:
            step, kind, own = self.todo.pop()
            if step == PART:
                self.begin()
            elif step == PAIR:
                self.turn()
            else:
                self.end(kind, own)

    def sign(self):
        """The next character, or nothing at the end."""
        return self.string[self.at:self.at + 1]

    def skip(self, sign):
        """Read this character."""
        if self.sign() != sign:
            raise Unreadable(self.at)
        self.at = self.at + 1

    def longest(self, is_word):
        """Read as many characters as together make up such a word, at least one."""
        word = ""
        while self.sign() and is_word(word + self.sign()):
            word = word + self.sign()
            self.at = self.at + 1
        if not word:
            raise Unreadable(self.at)
        return word

    def begin(self):
        """Read a document without inner ones, or the beginning of another one."""
        sign = self.sign()
        if sign == '"':
            self.made.append(Node("text", (self.quoted(),), ()))
        elif sign == "_":
            self.skip("_")
            self.made.append(Node("break", (self.quoted(),), ()))
        elif sign == "!":
            self.skip("!")
            self.made.append(Node("break", (None,), ()))
        elif sign == "(":
            self.skip("(")
            self.todo.append((PAIR, "", ()))
            self.todo.append((PART, "", ()))
        elif sign == "<":
            self.skip("<")
            own = (int(self.longest(_is_number)),)
            self.skip(" ")
            self.enter("nested", own)
        elif sign == "[":
            self.skip("[")
            self.enter("group", ())
        elif sign == "{":
            self.skip("{")
            self.enter("flattened", ())
        else:
            self.made.append(Node("hole", (self.longest(is_name),), ()))

    def enter(self, kind, own):
        """Note that the last inner document comes next, and then the end of this one."""
        self.todo.append((END, kind, own))
        self.todo.append((PART, "", ()))

    def turn(self):
        """Read what stands between two documents."""
        self.skip(" ")
        if self.sign() not in PAIRS:
            raise Unreadable(self.at)
        kind = PAIRS[self.sign()]
        self.at = self.at + 1
        self.skip(" ")
        self.enter(kind, ())

    def end(self, kind, own):
        """Read the end of a document, and make its node of the inner ones."""
        self.skip(CLOSING[kind])
        first = len(self.made) - INNER_NODES[kind]
        inner = tuple(self.made[first:])
        del self.made[first:]
        self.made.append(Node(kind, own, inner))

    def quoted(self):
        """Read a string in quotes."""
        self.skip('"')
        signs = []
        while self.sign() != '"':
            if self.sign() == "\\":
                self.skip("\\")
                if self.sign() not in ('"', "\\"):
                    raise Unreadable(self.at)
            elif not " " <= self.sign() <= "~":
                raise Unreadable(self.at)
            signs.append(self.sign())
            self.at = self.at + 1
        self.skip('"')
        return "".join(signs)
