"""Whether the wirings of two blocks are alike, judged item by item."""

from sameloops.alike import alike
from sameloops.measures import item_measures, links
from sameloops.wirings import blocks, only, parts, reversed_parts

LINE = ""


def contents(items, measures):
    """For each WORD of an item that has parts this item."""
    return {item[0]: item for item in items if item[1] == "part" or measures[item[2]]["parts"] > 0}


def unit_between(item):
    """What the item has between its nodes: a copy of a block, or a row or bundle of two or more."""
    return (item[1] if item[3] > 1 else "use", item[2])


def inside(sheet, unit):
    """The posts and the items of a unit."""
    kind, inner = unit
    if kind == "use":
        return sheet[inner]
    # Whether two rows or bundles are alike shows with two copies as with more.
    middle = ("m", "m") if kind == "row" else ("q", "p")
    return (("p", "q"), [("c0", "use", inner, 1, "p", middle[0]), ("c1", "use", inner, 1, middle[1], "q")])


class Comparison:
    """What is known by now of which blocks of a nest are alike."""

    def __init__(self, sheet, measures):
        self._sheet = sheet
        self._measures = measures
        self._named = {}
        self._judged = {}

    def same_names(self, block, other):
        """Whether the WIRINGs of both have the same NAMEs of parts."""
        pair = (block, other)
        if pair not in self._named:
            mine = contents(self._sheet[block][1], self._measures)
            its = contents(self._sheet[other][1], self._measures)
            self._named[pair] = sorted(mine) == sorted(its) and all(
                [self.same_item_names(mine[word], its[word]) for word in mine])
        return self._named[pair]

    def same_item_names(self, item, other):
        """Whether two items of the same WORD have the same NAMEs of parts."""
        if "part" in (item[1], other[1]) or "use" in (item[1], other[1]):
            if item[1] != other[1]:
                return False
        return item[3] == other[3] and (item[1] == "part" or self.same_names(item[2], other[2]))

    def alike_units(self, unit, other, line):
        """Whether two units with the same NAMEs of parts are alike.

        If line is 1 or -1, each with one more part, from its first to its second post or, if it is -1, in other the
        other way about.
        """
        key = (unit, other, line)
        if key not in self._judged:
            self._judged[key] = self.judged(unit, other, line)
        return self._judged[key]

    def judged(self, unit, other, line):
        """What alike_units tells.

        A RING within an item is one of both if the items are alike. All other RINGs go through items on a RING of
        items, from post to post, so it counts whether these items are alike with a line, and the RINGs of items.
        """
        mine = contents(inside(self._sheet, unit)[1], self._measures)
        its = contents(inside(self._sheet, other)[1], self._measures)
        if not all([self.alike_items(mine[word], its[word]) for word in mine]):
            return False
        one, two = self.on_rings(unit, 1 if line else 0), self.on_rings(other, line)
        if parts(one) != parts(two):
            return False
        signs = {word: self.sign(mine[word], its[word]) for word in parts(one) if word != LINE}
        if None in list(signs.values()):
            return False
        return alike(one, reversed_parts(two, [word for word in signs if signs[word] == -1]))

    def alike_items(self, item, other):
        """Whether two items with the same NAMEs of parts are alike."""
        if item[1] == "part":
            return (item[4] == item[5]) == (other[4] == other[5])
        return self.alike_units(unit_between(item), unit_between(other), 0)

    def on_rings(self, unit, line):
        """The WIRING of the items of the unit that are on a RING with others, with a line if it is 1 or -1."""
        posts, items = inside(self._sheet, unit)
        rows = links(items, item_measures(items, self._measures))
        if line:
            ends = posts if line == 1 else (posts[1], posts[0])
            rows = [(LINE, ends[0], ends[1])] + rows
        return only(rows, [word for names in blocks(rows) if len(names) > 1 for word in names])

    def sign(self, item, other):
        """1 if two items are alike with a line, -1 if it must lead the other way about, None if neither is so."""
        if item[1] == "part" or self.alike_units(unit_between(item), unit_between(other), 1):
            return 1
        return -1 if self.alike_units(unit_between(item), unit_between(other), -1) else None
