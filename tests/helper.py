"""What several tests share: wrong things, checks of errors, other ways to compute the same."""

import random

from layoutsets.docs import Doc, hole, line, text

INNER = {
    "text": 0, "break": 0, "hole": 0, "join": 2,
    "choice": 2, "nested": 1, "group": 1, "flattened": 1,
}


def deep_list(depth):
    """A list within lists."""
    thing = []
    for _ in range(depth):
        thing = [thing]
    return thing


def anything():
    """One of each kind of value that may be passed where an error is stated."""
    return [
        None, True, False, 0, 1, -1, 10 ** 99, "", "a", "A", "abc def", "x" * 40, (), (0, "a"), ((0, "a"),),
        [], [0], ["text", "a"], {}, {"x": 1}, {"a": [(), {}]}, deep_list(49), text("a"), [text("a")], (line(),),
    ]


def not_docs():
    """Values that are not documents."""
    return [thing for thing in anything() if not isinstance(thing, Doc)]


def same_kind(one, other):
    """Whether two values are equal, and of the same class too (True is not 1)."""
    return one.__class__ is other.__class__ and one == other


def expect(case, error, fields, call, *args, **named):
    """Check that the call raises just this error, with these fields."""
    with case.assertRaises(error) as caught:
        call(*args, **named)
    case.assertIs(caught.exception.__class__, error)
    for field, value in fields.items():
        found = getattr(caught.exception, field)
        case.assertTrue(same_kind(found, value), (field, found, value))


def random_form(source, depth):
    """Some form, at most this deep."""
    kinds = ["text", "break", "hole"] + ["join", "choice", "nested", "group", "flattened"] * (depth > 0)
    kind = source.choice(kinds)
    if kind == "text":
        return (kind, source.choice(["", "a", "b c", "~"]))
    if kind == "break":
        return (kind, source.choice([None, "", " ", "ab"]))
    if kind == "hole":
        return (kind, source.choice(["a", "b", "x", "xyz", "abcdefgh"]))
    own = (source.randrange(41),) if kind == "nested" else ()
    inner = [random_form(source, depth - 1) for _ in range(INNER[kind])]
    return (kind, *own, *inner)


def random_forms(seed, many=300, depth=5):
    """The same random forms each time."""
    source = random.Random(seed)
    return [random_form(source, depth) for _ in range(many)]


def inner_of(form):
    """The inner forms of a form."""
    return [part for part in form[1:] if isinstance(part, tuple)]


def parts_of(form):
    """How many parts a form has."""
    return 1 + sum(parts_of(part) for part in inner_of(form))


def holes_of(form):
    """The set of the names of the holes of a form."""
    if form[0] == "hole":
        return {form[1]}
    return set().union(*[holes_of(part) for part in inner_of(form)])


def ways_of(form):
    """The broken and the flat ways of a form, by the words of point 6."""
    inner = [ways_of(part) for part in inner_of(form)]
    if form[0] in ("text", "hole"):
        return (1, 1)
    if form[0] == "break":
        return (1, 0 if form[1] is None else 1)
    if form[0] == "join":
        return (inner[0][0] * inner[1][0], inner[0][1] * inner[1][1])
    if form[0] == "choice":
        return (inner[0][0] + inner[1][0], inner[0][1] + inner[1][1])
    if form[0] == "nested":
        return inner[0]
    if form[0] == "group":
        return (inner[0][0] + inner[0][1], inner[0][1])
    return (inner[0][1], inner[0][1])


def fill_form(form, fillings):
    """The form with forms in the place of its holes."""
    if form[0] == "hole":
        return fillings.get(form[1], form)
    return tuple([fill_form(part, fillings) if isinstance(part, tuple) else part for part in form])


def built_by_operators(form):
    """The document with this form, built by the functions and operators."""
    inner = [built_by_operators(part) for part in inner_of(form)]
    makers = {
        "text": lambda: text(form[1]),
        "break": lambda: line(form[1]),
        "hole": lambda: hole(form[1]),
        "join": lambda: inner[0] + inner[1],
        "choice": lambda: inner[0] | inner[1],
        "nested": lambda: inner[0].nested(form[1]),
        "group": lambda: inner[0].group(),
        "flattened": lambda: inner[0].flattened(),
    }
    return makers[form[0]]()
