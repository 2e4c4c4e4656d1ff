"""The errors of the package, one class for each kind of failure.

Errors without values define a constructor, too: that of the built-in classes would take any values.
"""


class NoPart(LookupError):
    """A NAME is no part of the wiring."""

    def __init__(self, part):
        self.part = part


class NoNode(LookupError):
    """A NAME is no node of the wiring."""

    def __init__(self, node):
        self.node = node


class NoBlock(LookupError):
    """A WORD is no block of the nest."""

    def __init__(self, block):
        self.block = block


class NoPlace(LookupError):
    """A number is no place of a post."""

    def __init__(self, place):
        self.place = place


class NoSwitch(LookupError):
    """A NAME is no switch."""

    def __init__(self, part):
        self.part = part


class NoFit(ValueError):
    """Two things do not go together."""

    def __init__(self):
        pass


class Leak(ValueError):
    """At a node the amounts do not add up."""

    def __init__(self, node):
        self.node = node


class OtherParts(ValueError):
    """Only one of two things has a part."""

    def __init__(self, part):
        self.part = part


class NoRing(ValueError):
    """A thing is no RING of the wiring."""

    def __init__(self):
        pass


class NoPiece(ValueError):
    """A set of parts is no piece."""

    def __init__(self):
        pass


class NoDrawing(ValueError):
    """No drawing has this number."""

    def __init__(self, number):
        self.number = number


class Twice(ValueError):
    """A part would be there twice."""

    def __init__(self, part):
        self.part = part


class Wrong(ValueError):
    """A NOTE is not right."""

    def __init__(self, note):
        self.note = note


class BadLine(ValueError):
    """A line of a text is not written as it must be."""

    def __init__(self, number):
        self.number = number


class NothingDone(RuntimeError):
    """There is no deed to take back."""

    def __init__(self):
        pass
