"""A desk: documents that are kept by names and use one another."""

from layoutsets.checks import is_name, is_whole
from layoutsets.costs import best
from layoutsets.docs import Doc, filled, refuse_non_docs
from layoutsets.errors import Circular, InvalidDeed, InvalidName, InvalidWidth, NoSuchName, NothingToUndo
from layoutsets.layouts import shown

FIRST_WIDTH = 80
MOST_WIDTH = 1000


class Desk:
    """Documents by names, and a width. Each change is a step that can be taken back.

    The dict of the documents is never changed: a step puts another one in its place, so that earlier
    ones, and copies of the desk, may hold on to it.
    """

    def __init__(self):
        self.docs = {}
        self.limit = FIRST_WIDTH
        self.past = []

    def __len__(self):
        return len(self.docs)

    def __contains__(self, x):
        return _is_kept(x, self.docs)

    def __getitem__(self, at):
        _refuse_unkept(at, self.docs)
        return self.docs[at]

    def __iter__(self):
        raise TypeError("a desk is walked over by its names or by its method order")

    def __eq__(self, other):
        if not isinstance(other, Desk):
            return False
        return self.limit == other.limit and self.docs == other.docs

    @property
    def width(self):
        """The width for which documents are shown."""
        return self.limit

    @property
    def names(self):
        """The names, ascending."""
        return tuple(sorted(self.docs))

    def put(self, name, doc):
        """Keep the document by this name."""
        if not is_name(name):
            raise InvalidName(name)
        refuse_non_docs([doc])
        self.change(_done(("put", name, doc), self.docs), self.limit)

    def drop(self, name):
        """Keep the document by this name no longer."""
        _refuse_unkept(name, self.docs)
        self.change(_done(("drop", name), self.docs), self.limit)

    def do(self, *deeds):
        """Do all these deeds, or none of them."""
        docs = self.docs
        for place, deed in enumerate(deeds):
            if not _may_be_done(deed, docs):
                raise InvalidDeed(place)
            docs = _done(deed, docs)
        self.change(docs, self.limit)

    def set_width(self, value):
        """Show documents for this width from now on."""
        if not is_whole(value) or value > MOST_WIDTH:
            raise InvalidWidth(value)
        self.change(self.docs, value)

    def change(self, docs, limit):
        """Take these documents and this width, as one step."""
        self.past.append((self.docs, self.limit))
        self.docs, self.limit = docs, limit

    def undo(self):
        """Take back the last step that is not yet taken back."""
        if not self.past:
            raise NothingToUndo()
        self.docs, self.limit = self.past.pop()

    def whole(self, name):
        """The document with the whole documents of the names that it uses in their holes."""
        _refuse_unkept(name, self.docs)
        ring = _ring(name, self.docs)
        if ring:
            raise Circular(ring)
        return _whole(name, self.docs)

    def order(self):
        """Yield the names, each behind those that it uses, and the least one first that can come."""
        for name in _ordered(self.docs):
            yield name

    def show(self, name):
        """The lines of the best layout of the whole document."""
        return shown(best(self.whole(name), width=self.limit))

    def copy(self):
        """A desk with the same documents, width and steps that goes on apart from this one."""
        made = Desk()
        made.docs, made.limit, made.past = self.docs, self.limit, list(self.past)
        return made


def _is_kept(thing, docs):
    """Whether it is the name of a document."""
    return isinstance(thing, str) and thing in docs


def _refuse_unkept(thing, docs):
    """Refuse what is not the name of a document."""
    if not _is_kept(thing, docs):
        raise NoSuchName(thing)


def _may_be_done(deed, docs):
    """Whether it is a deed that these documents permit."""
    if not isinstance(deed, tuple):
        return False
    if len(deed) == 3:
        return deed[0] == "put" and is_name(deed[1]) and isinstance(deed[2], Doc)
    return len(deed) == 2 and deed[0] == "drop" and _is_kept(deed[1], docs)


def _done(deed, docs):
    """The documents once the deed is done."""
    if deed[0] == "put":
        return {**docs, deed[1]: deed[2]}
    return {name: doc for name, doc in docs.items() if name != deed[1]}


def _uses(name, docs):
    """The names of the documents that the one by this name uses, ascending."""
    return [gap for gap in docs[name].holes if gap in docs]


def _led_to(name, docs):
    """The names to which the name leads; it is among them itself if it is circular."""
    found = {}
    todo = [name]
    while todo:
        top = todo.pop()
        fresh = [use for use in _uses(top, docs) if use not in found]
        for use in fresh:
            found[use] = True
        todo.extend(fresh)
    return list(found)


def _ring(name, docs):
    """The circular names among the name and those to which it leads, ascending."""
    near = sorted(set([name, *_led_to(name, docs)]))
    return tuple([other for other in near if other in _led_to(other, docs)])


def _whole(name, docs):
    """The whole document of a name that neither is circular nor leads to a circular one."""
    made = {}
    todo = [name]
    while todo:
        top = todo[-1]
        uses = _uses(top, docs)
        waiting = [use for use in uses if use not in made]
        if waiting:
            todo.extend(waiting)
            continue
        todo.pop()
        # A name that several others use comes up again after it has been made.
        if top not in made:
            doc = docs[top]
            fillings = {use: made[use] for use in uses}
            made[top] = filled(doc, **fillings)
    return made[name]


def _ordered(docs):
    """The names, each behind those that it uses, up to the circular ones and those that lead to them."""
    uses = {name: _uses(name, docs) for name in sorted(docs)}
    done = {}
    while True:
        ready = [name for name in uses if name not in done and all([use in done for use in uses[name]])]
        if not ready:
            return list(done)
        done[ready[0]] = True
