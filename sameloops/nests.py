"""Nests: descriptions of wirings with pieces in pieces, judged without being unfolded."""

from sameloops.comparing import Comparison
from sameloops.errors import NoBlock, NoPart
from sameloops.measures import measured
from sameloops.places import ends_in, place_in, unfolded_in
from sameloops.sheets import read, with_block, with_ends


class Nest:
    """A nest that is written in a text; it does not change."""

    def __init__(self, text):
        self._text = text
        self._sheet = read(text)
        self._measures = measured(self._sheet)

    def text(self):
        """The text."""
        return self._text

    def blocks(self):
        """The tuple of the WORDs of the blocks, in order."""
        return tuple(self._sheet)

    def __len__(self):
        return len(self._sheet)

    def __contains__(self, block):
        return block in self._sheet

    def __eq__(self, other):
        if not isinstance(other, Nest):
            return False
        return self._text == other._text

    def check_blocks(self, names):
        """Raise NoBlock for the first of names that is no block."""
        for name in names:
            if name not in self._sheet:
                raise NoBlock(name)

    def place_of(self, block, path):
        """What the part with this path is for the block; raises NoBlock, then NoPart."""
        self.ends(block, path)
        return place_in(self._sheet, self._measures, block, path.split("."))

    def unfolded(self, block):
        """The WIRING of the block."""
        self.check_blocks([block])
        return unfolded_in(self._sheet, self._measures, block)

    def size(self, block):
        """How many parts the block has, and how many of them are not in its forest."""
        self.check_blocks([block])
        measure = self._measures[block]
        return (measure["parts"], measure["parts"] - measure["rank"])

    def ends(self, block, path):
        """The start and the end of the part with this path."""
        self.check_blocks([block])
        found = ends_in(self._sheet, block, path.split("."))
        if found is None:
            raise NoPart(path)
        return found

    def way(self, block):
        """The fewest parts of a row from the one post to the other; None if there is none."""
        self.check_blocks([block])
        return self._measures[block]["way"]

    def barrier(self, block):
        """The fewest parts without which no row leads from the one post to the other."""
        self.check_blocks([block])
        return self._measures[block]["barrier"]

    def least_ring(self, block, path):
        """The fewest parts of a RING with this part; None if there is none."""
        return self.place_of(block, path)["ring"]

    def least_cut(self, block, path):
        """The fewest parts of a CUT with this part; None if there is none."""
        place = self.place_of(block, path)
        found = [number for number in (place["within"], place["across"]) if number is not None]
        return min(found, default=None)

    def row_mates(self, block, path):
        """How many parts have the current of this one, but for the sign, itself among them."""
        return self.place_of(block, path)["alone"]

    def bundle_mates(self, block, path):
        """How many parts have the voltage of this one, but for the sign, itself among them."""
        return self.place_of(block, path)["beside"]

    def compared(self, block, other, line):
        """Whether two blocks are alike, with a line from post to post or without."""
        self.check_blocks([block, other])
        comparison = Comparison(self._sheet, self._measures)
        return comparison.same_names(block, other) and comparison.alike_units(("use", block), ("use", other), line)

    def alike(self, block, other):
        """Whether the WIRINGs of two blocks are alike."""
        return self.compared(block, other, 0)

    def alike_pieces(self, block, other):
        """Whether they are, each with one more part from its first to its second post."""
        return self.compared(block, other, 1)

    def changed(self, block, part, start, end):
        """The Nest in which this part has this start and end in the line of the block."""
        self.check_blocks([block])
        told = with_ends(self._text, block, part, start, end)
        if told is None:
            raise NoPart(part)
        return Nest(told)

    def swapped(self, block, other):
        """The Nest in which blocks behind both have copies of other in the place of those of block."""
        self.check_blocks([block, other])
        names = self.blocks()
        last = max(names.index(block), names.index(other))
        return Nest(with_block(self._text, names[last + 1:], block, other))
