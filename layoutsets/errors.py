"""The errors of the package, each with its field or without one."""


class LayoutError(ValueError):
    """The base class of all errors of the package."""


class InvalidText(LayoutError):
    """What should be a string of characters from the space to ~ is none."""

    def __init__(self, string=None):
        self.string = string


class InvalidSteps(LayoutError):
    """The number of steps is not an integer, or not one that may stand there."""

    def __init__(self, steps=None):
        self.steps = steps


class InvalidName(LayoutError):
    """What should be a name of one to eight letters from a to z is none."""

    def __init__(self, name=None):
        self.name = name


class NotADocument(LayoutError):
    """What should be a document is none."""

    def __init__(self, thing=None):
        self.thing = thing


class NotALayoutSet(LayoutError):
    """What should be a layout set is none."""

    def __init__(self, thing=None):
        self.thing = thing


class InvalidLayout(LayoutError):
    """What should be a layout is none; the problem is what check_layout tells."""

    def __init__(self, problem=None):
        self.problem = problem


class HasHoles(LayoutError):
    """A document has holes where only one without holes may stand."""

    def __init__(self, unfilled=None):
        self.unfilled = unfilled


class OutOfRange(LayoutError):
    """There is no layout with this number; the count tells how many there are."""

    def __init__(self, count=None):
        self.count = count


class InvalidPlace(LayoutError):
    """What should be a part of a place, or a context, is none."""

    def __init__(self, value=None):
        self.value = value


class InvalidWidth(LayoutError):
    """What should be a width is none."""

    def __init__(self, value=None):
        self.value = value


class Unreadable(LayoutError):
    """A string is not a written document from this number of characters on."""

    def __init__(self, at=None):
        self.at = at


class NoSuchName(LayoutError):
    """A desk keeps no document by this name."""

    def __init__(self, name=None):
        self.name = name


class Circular(LayoutError):
    """Documents of a desk use one another in a ring."""

    def __init__(self, ring=None):
        self.ring = ring


class InvalidDeed(LayoutError):
    """The deed at this place of a list of deeds is none, or is refused."""

    def __init__(self, place=None):
        self.place = place


class InvalidForm(LayoutError):
    """No document has this form."""


class TooLarge(LayoutError):
    """A document, or a set, has too many layouts for what is asked."""


class NotFound(LayoutError):
    """There is no such layout."""


class NothingToUndo(LayoutError):
    """A desk has no step that could be taken back."""
