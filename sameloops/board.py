"""A board: a wiring that changes, and notes about it that are kept as long as they are right."""

from sameloops.alike import alike
from sameloops.errors import NoFit, NoPart, NothingDone, Twice, Wrong
from sameloops.posts import in_place, is_unit
from sameloops.rings import is_cut, is_ring
from sameloops.switches import lit
from sameloops.turns import turned
from sameloops.wirings import as_tuples, bridged, is_wiring, joined_nodes, opened, parts, reversed_parts


def is_lit(wiring, source, lamp, word):
    """Whether lit tells this word."""
    if source not in parts(wiring) or lamp not in parts(wiring):
        return False
    return lit(wiring, source, lamp) == word


def stands(wiring, unit):
    """Whether the wiring with the UNIT in its place is alike to it."""
    if not is_unit(unit):
        return False
    try:
        return alike(in_place(wiring, unit), wiring)
    except (NoPart, NoFit):
        return False


def is_right(wiring, note):
    """Whether the NOTE is right for the wiring."""
    if type(note) is not tuple or len(note) not in (2, 4):
        return False
    if len(note) == 4:
        return note[0] == "lit" and is_lit(wiring, note[1], note[2], note[3])
    word, told = note
    if word == "ring":
        return is_ring(wiring, told)
    if word == "cut":
        return is_cut(wiring, told)
    if word == "alike":
        return is_wiring(told) and alike(told, wiring)
    return word == "stand" and stands(wiring, told)


class Board:
    """A WIRING that changes, the NOTEs about it, and what was ahead of each deed."""

    def __init__(self, wiring):
        self._wiring = as_tuples(wiring)
        self._notes = ()
        # For each deed that can be taken back the WIRING and the NOTEs ahead of it.
        self._past = []

    def wiring(self):
        """The WIRING as it is now."""
        return self._wiring

    def claim(self, note):
        """Keep the NOTE, behind the others; raises Wrong if it is not right."""
        note = as_tuples(note)
        if not is_right(self._wiring, note):
            raise Wrong(note)
        if note not in self._notes:
            self._notes = self._notes + (note,)

    def notes(self):
        """The list of the NOTEs that are kept, in the order in which they came."""
        return list(self._notes)

    def become(self, wiring):
        """Do a deed: the WIRING is another one; the list of the NOTEs that are no longer right is returned."""
        kept = tuple([note for note in self._notes if is_right(wiring, note)])
        lost = [note for note in self._notes if note not in kept]
        self._past.append((self._wiring, self._notes))
        self._wiring = wiring
        self._notes = kept
        return lost

    def put(self, part, start, end):
        """Add a further part."""
        if part in parts(self._wiring):
            raise Twice(part)
        return self.become(tuple(sorted([*self._wiring, (part, start, end)])))

    def drop(self, part):
        """Open the part."""
        return self.become(opened(self._wiring, (part,)))

    def bridge(self, part):
        """Bridge the part."""
        return self.become(bridged(self._wiring, (part,)))

    def flip(self, part):
        """Exchange start and end of the part."""
        return self.become(reversed_parts(self._wiring, (part,)))

    def tie(self, node, other):
        """Let the two nodes become one."""
        return self.become(joined_nodes(self._wiring, node, other))

    def turn(self, names):
        """Turn the piece of these parts."""
        return self.become(turned(self._wiring, names))

    def hang(self, unit):
        """Put the UNIT in the place of its parts."""
        return self.become(in_place(self._wiring, unit))

    def undo(self):
        """Take back the last deed that is not taken back yet."""
        if self._past == []:
            raise NothingDone()
        self._wiring, self._notes = self._past.pop()

    def __len__(self):
        return len(self._past)

    def before(self, times):
        """The WIRING as it was ahead of the last so many deeds."""
        if times > len(self._past):
            raise NothingDone()
        return self.history()[times]

    def history(self):
        """The WIRINGs from the present one back, ahead of one deed after another."""
        return [self._wiring] + [wiring for wiring, _ in reversed(self._past)]

    def kept(self):
        """The greatest number of last deeds ahead of each of which the WIRING was alike to the present one."""
        many = 0
        for wiring in self.history()[1:]:
            if not alike(wiring, self._wiring):
                return many
            many += 1
        return many

    def copied(self):
        """A Board in the same state that shares nothing with this one."""
        board = Board(self._wiring)
        board._notes = self._notes
        board._past = list(self._past)
        return board
