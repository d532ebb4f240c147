"""Documents: how they are built, and what can be asked of them."""

from layoutsets.checks import is_name, is_plain, is_steps
from layoutsets.errors import HasHoles, InvalidForm, InvalidName, InvalidSteps, InvalidText, NotADocument
from layoutsets.nodes import INNER_NODES, OWN_VALUES, Node, filled_node, same_nodes, shape_of, stacked_node


class Doc:
    """A document. It never changes; the functions of this file make the first ones."""

    def __init__(self, node):
        self.node = node

    def __add__(self, other):
        if not isinstance(other, Doc):
            raise NotADocument(other)
        return Doc(Node("join", (), (self.node, other.node)))

    def __or__(self, other):
        if not isinstance(other, Doc):
            raise NotADocument(other)
        return Doc(Node("choice", (), (self.node, other.node)))

    def __eq__(self, other):
        if not isinstance(other, Doc):
            return False
        return same_nodes(self.node, other.node)

    def nested(self, steps):
        """The document nested by a number of steps from 0 to 40."""
        if not is_steps(steps):
            raise InvalidSteps(steps)
        return Doc(Node("nested", (steps,), (self.node,)))

    def group(self):
        """The group of the document."""
        return Doc(Node("group", (), (self.node,)))

    def flattened(self):
        """The document flattened."""
        return Doc(Node("flattened", (), (self.node,)))

    @property
    def form(self):
        """The tuple that tells how the document is built."""
        return shape_of(self.node)

    @property
    def parts(self):
        """The number of its parts."""
        return self.node.size

    @property
    def holes(self):
        """The names of its holes, ascending, each once."""
        return self.node.gaps

    @property
    def ways(self):
        """The number of its broken ways."""
        return self.node.broken

    @property
    def flat_ways(self):
        """The number of its flat ways."""
        return self.node.flat


def text(string=""):
    """A text."""
    if not is_plain(string):
        raise InvalidText(string)
    return Doc(Node("text", (string,), ()))


def line(flat=" "):
    """A break with a flat string, or with None."""
    if flat is not None and not is_plain(flat):
        raise InvalidText(flat)
    return Doc(Node("break", (flat,), ()))


def hole(name):
    """A hole."""
    if not is_name(name):
        raise InvalidName(name)
    return Doc(Node("hole", (name,), ()))


def refuse_non_docs(things):
    """Refuse the first thing that is not a document."""
    for thing in things:
        if not isinstance(thing, Doc):
            raise NotADocument(thing)


def refuse_holes(doc):
    """Refuse a document with holes."""
    if doc.holes:
        raise HasHoles(doc.holes)


def joined(*docs, between=None):
    """The join of the documents, from the left, with between, if given, between each two."""
    refuse_non_docs(docs)
    if between is not None:
        refuse_non_docs([between])
    if not docs:
        return text("")
    whole = docs[0]
    for doc in docs[1:]:
        if between is not None:
            whole = whole + between
        whole = whole + doc
    return whole


def either(first, *others):
    """The choice of the documents, from the left."""
    refuse_non_docs([first, *others])
    whole = first
    for doc in others:
        whole = whole | doc
    return whole


def filled(the_doc, **fillings):
    """The document with the holes of these names filled, all at once."""
    refuse_non_docs([the_doc])
    refuse_non_docs([fillings[name] for name in sorted(fillings)])
    nodes = {name: doc.node for name, doc in fillings.items()}
    return Doc(filled_node(the_doc.node, nodes))


def doc_of(form):
    """The document with this form."""
    pieces = []
    todo = [form]
    while todo:
        kind, own, inner = _read_piece(todo.pop())
        pieces.append((kind, own, len(inner)))
        todo.extend(list(inner))
    return Doc(stacked_node(pieces))


def _read_piece(form):
    """The kind, the own values and the inner forms of a form."""
    if not isinstance(form, tuple) or len(form) < 2 or not isinstance(form[0], str):
        raise InvalidForm()
    kind = form[0]
    if kind not in OWN_VALUES:
        raise InvalidForm()
    own, inner = form[1:1 + OWN_VALUES[kind]], form[1 + OWN_VALUES[kind]:]
    if len(inner) != INNER_NODES[kind] or not _own_fits(kind, own):
        raise InvalidForm()
    return kind, own, inner


def _own_fits(kind, own):
    """Whether a document of this kind can have these own values."""
    if kind == "text":
        return is_plain(own[0])
    if kind == "break":
        return own[0] is None or is_plain(own[0])
    if kind == "hole":
        return is_name(own[0])
    return kind != "nested" or is_steps(own[0])
