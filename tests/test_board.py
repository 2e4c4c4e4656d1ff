"""[16]: a board that changes."""

import copy
import unittest

from sameloops.alike import alike
from sameloops.board import Board
from sameloops.errors import NoFit, NoNode, NoPart, NoPiece, NothingDone, Twice, Wrong
from sameloops.posts import in_place
from sameloops.rings import cuts, rings
from sameloops.switches import lit
from sameloops.turns import is_piece, turned
from sameloops.wirings import bridged, joined_nodes, nodes, opened, parts, reversed_parts
from tests.sheets import Picks
from tests.support import GATE, HOUSE, LOOP, NESTED, ONE, OTHER, SQUARE, TURNED_SQUARE, all_wirings, holds_list, listed

ROUND = ("ring", (("a", "along"), ("b", "along"), ("c", "along")))
LAST = ("cut", (("e", "along"),))
LIT = ("lit", "c", "b", "always")
# A UNIT that stands in its place in HOUSE, with a and b in the other order; d ends at m.
UNIT = ((("a", "q", "k"), ("b", "n", "q")), ("n", "k", "m"))
STAND = ("stand", ((("c", "k", "n"), ("f", "n", "k")), ("k", "n")))


def told_error(call, *arguments):
    """The class of the error that is raised, and the values that it keeps."""
    try:
        call(*arguments)
    except (NoFit, NoNode, NoPart, NoPiece, NothingDone, Twice, Wrong) as error:
        return type(error), vars(error)
    return None


class ExamplesTest(unittest.TestCase):

    def test_all(self):
        board = Board(HOUSE)
        for note in (ROUND, LAST, LIT):
            self.assertIsNone(board.claim(note))
        self.assertEqual((board.flip("d"), len(board), board.kept()), ([], 1, 1))
        self.assertEqual(board.drop("b"), [ROUND, LIT])
        self.assertEqual((board.notes(), board.kept(), board.before(1) == reversed_parts(HOUSE, ("d",))),
                         ([LAST], 0, True))
        self.assertIsNone(board.undo())
        self.assertEqual((len(board.notes()), board.tie("x", "k"), board.wiring()[4]), (3, [LAST], ("e", "k", "k")))
        self.assertEqual(told_error(board.claim, ("alike", HOUSE)), (Wrong, {"note": ("alike", HOUSE)}))
        self.assertEqual(told_error(board.drop, "g"), (NoPart, {"part": "g"}))


class NotesTest(unittest.TestCase):

    def test_right_notes(self):
        notes = [*[("ring", ring) for ring in rings(HOUSE)], *[("cut", cut) for cut in cuts(HOUSE)],
                 ("alike", HOUSE), ("alike", reversed_parts(HOUSE, ("d", "e"))), ("alike", in_place(HOUSE, UNIT)),
                 *[("lit", one, other, lit(HOUSE, one, other)) for one in "abcdef" for other in "abcdef"],
                 STAND, ("stand", UNIT), ("stand", ((), ())), ("stand", (HOUSE, ())), ("stand", (HOUSE, ("z",)))]
        board = Board(HOUSE)
        for note in notes:
            self.assertIsNone(board.claim(note))
        self.assertEqual(board.notes(), notes)
        for note in notes[::-1]:
            board.claim(listed(note))
        self.assertEqual(board.notes(), notes)
        self.assertFalse(holds_list(tuple(board.notes())))

    def test_wrong_notes(self):
        board = Board(HOUSE)
        board.claim(LAST)
        for note in (("ring", ()), ("ring", (("a", "along"),)), ("ring",
                                                                 (("a", "along"), ("b", "along"), ("c", "against"))),
                     ("ring", (("z", "along"),)), ("ring", "a"), ("ring", None), ("ring", LAST[1]), ("cut", ROUND[1]),
                     ("cut", ()), ("cut", 7), ("cut", (("a", "along"), ("b", "along"))), ("alike", LOOP), ("alike", ()),
                     ("alike", reversed_parts(HOUSE, ("a",))), ("alike", None), ("alike", "house"),
                     ("alike", HOUSE[::-1]), ("alike", (1, 2)), ("lit", "c", "b", "never"),
                     ("lit", "c", "b", "sometimes"),
                     ("lit", "c", "z", "always"), ("lit", "z", "c", "never"), ("lit", "e", "e", "always"),
                     ("lit", "c", "b", "maybe"), ("lit", "c", "b", None), ("lit", None, "b", "always"),
                     ("stand", (UNIT[0], ("k", "n"), ())), ("stand", (UNIT[0], ("n",))), ("stand", (UNIT[0], ())),
                     ("stand", (UNIT[0], ("n", "k", "m", "n"))), ("stand", ((("g", "n", "k"),), ("n", "k"))),
                     ("stand", None),
                     ("stand", (reversed_parts(UNIT[0], ("a",)), UNIT[1])), ("stand", UNIT[0]), ("stand", ()),
                     ("stand", (UNIT[0], 5)), ("rings", ROUND[1]), ("standing", STAND[1]), None, 7, "ring", ("cutting", LAST[1]), ("lit", "c"), ("ring",), (),
                     ("lit", "c", "b", "always", 1), ("ring", ROUND[1], ROUND[1]), ("put", "c", "b", "always")):
            with self.subTest(note=note):
                self.assertEqual(told_error(board.claim, note), (Wrong, {"note": note}))
                self.assertEqual(told_error(board.claim, listed(note)), (Wrong, {"note": note}))
                self.assertEqual((board.notes(), board.wiring(), len(board)), ([LAST], HOUSE, 0))

    def test_claimed_once(self):
        board = Board(HOUSE)
        for note in (ROUND, LAST, ROUND, listed(LAST), LIT, ROUND):
            board.claim(note)
        self.assertEqual(board.notes(), [ROUND, LAST, LIT])

    def test_lost_in_order(self):
        board = Board(HOUSE)
        for note in (LIT, STAND, LAST, ("alike", HOUSE), ROUND):
            board.claim(note)
        self.assertEqual(board.flip("e"), [])
        self.assertEqual(board.bridge("e"), [LAST, ("alike", HOUSE)])
        self.assertEqual(board.notes(), [LIT, STAND, ROUND])
        self.assertEqual(board.flip("f"), [STAND])
        self.assertEqual(board.put("e", "x", "q"), [])
        self.assertEqual(board.notes(), [LIT, ROUND])
        board.claim(LAST)
        board.claim(("alike", board.wiring()))
        self.assertEqual(board.drop("e"), [LAST, ("alike", HOUSE[:4] + (("e", "x", "q"), ("f", "k", "n")))])
        self.assertEqual(board.tie("n", "m"), [ROUND])
        self.assertEqual(board.notes(), [LIT])

    def test_turns_lose_just_units(self):
        board = Board(SQUARE)
        notes = [("ring", rings(SQUARE)[0]), ("cut", cuts(SQUARE)[0]), ("alike", TURNED_SQUARE),
                 ("lit", "a", "b", "always"),
                 ("stand", (SQUARE[:1], ("p", "q"))), ("stand", (SQUARE[2:], ("p", "r")))]
        notes[2] = ("alike", turned(SQUARE, ("a", "b")))
        for note in notes:
            board.claim(note)
        self.assertEqual(board.turn(("a", "b")), [("stand", (SQUARE[:1], ("p", "q")))])
        self.assertEqual((board.wiring(), board.kept()), (turned(SQUARE, ("a", "b")), 1))


class DeedsTest(unittest.TestCase):

    def test_each_deed(self):
        for deed, arguments, wiring in (
                ("put", ("bb", "q", "n"), HOUSE[:2] + (("bb", "q", "n"),) + HOUSE[2:]),
                ("put", ("z", "x", "x"), HOUSE + (("z", "x", "x"),)), ("drop", ("e",), opened(HOUSE, "e")),
                ("bridge", ("b",), bridged(HOUSE, "b")), ("flip", ("a",), reversed_parts(HOUSE, "a")),
                ("tie", ("x", "m"), joined_nodes(HOUSE, "x", "m")), ("tie", ("k", "k"), HOUSE),
                ("turn", (("c", "f"),), turned(HOUSE, ("c", "f"))), ("hang", (UNIT,), in_place(HOUSE, UNIT)),
                ("hang", (((), ()),), HOUSE)):
            with self.subTest(deed, arguments=arguments):
                board = Board(HOUSE)
                self.assertEqual(getattr(board, deed)(*arguments), [])
                self.assertEqual((board.wiring(), len(board), board.before(1)), (wiring, 1, HOUSE))
                given = [listed(value) for value in arguments]
                board = Board(listed(HOUSE))
                self.assertEqual(getattr(board, deed)(*given), [])
                self.assertEqual((board.wiring(), given), (wiring, [listed(value) for value in arguments]))
                self.assertFalse(holds_list(board.wiring()))
                self.assertIsNone(board.undo())
                self.assertEqual((board.wiring(), len(board)), (HOUSE, 0))

    def test_errors_leave_all_as_it_is(self):
        board = Board(HOUSE)
        board.claim(ROUND)
        board.flip("e")
        wiring = board.wiring()
        for deed, arguments, error in (
                ("put", ("c", "x", "y"), (Twice, {"part": "c"})), ("drop", ("g",), (NoPart, {"part": "g"})),
                ("bridge", ("ab",), (NoPart, {"part": "ab"})), ("flip", ("x",), (NoPart, {"part": "x"})),
                ("tie", ("y", "z"), (NoNode, {"node": "y"})), ("tie", ("x", "z"), (NoNode, {"node": "z"})),
                ("tie", ("y", "x"), (NoNode, {"node": "y"})), ("turn", (("a", "z"),), (NoPart, {"part": "z"})),
                ("turn", (("a", "f"),), (NoPiece, {})), ("turn", (("a", "e"),), (NoPiece, {})),
                ("turn", ((),), (NoPiece, {})),
                ("hang", (((("g", "n", "k"),), ("n", "k")),), (NoPart, {"part": "g"})),
                ("hang", ((UNIT[0], ("n",)),), (NoFit, {})), ("before", (2,), (NothingDone, {})),
                ("claim", (("ring", ()),), (Wrong, {"note": ("ring", ())}))):
            with self.subTest(deed, arguments=arguments):
                self.assertEqual(told_error(getattr(board, deed), *arguments), error)
                self.assertEqual((board.wiring(), board.notes(), len(board), board.before(1)),
                                 (wiring, [ROUND], 1, HOUSE))
        self.assertEqual(told_error(Board(HOUSE).undo), (NothingDone, {}))
        self.assertEqual(told_error(Board(()).before, 1), (NothingDone, {}))

    def test_by_names(self):
        board = Board(wiring=HOUSE)
        board.claim(note=ROUND)
        told = (board.put(part="y", start="x", end="n"), board.drop(part="y"), board.bridge(part="e"),
                board.flip(part="d"),
                board.tie(node="n", other="n"), board.turn(names=("c", "f")), board.hang(unit=UNIT))
        self.assertEqual(told, ([], [], [], [], [], [], []))
        self.assertEqual((len(board), board.before(times=7)), (7, HOUSE))

    def test_undo_brings_all_back(self):
        board = Board(HOUSE)
        states = []
        for at, (deed, arguments, note) in enumerate((
                ("flip", ("d",), ROUND), ("drop", ("b",), LAST), ("bridge", ("c",), ("ring", (("d", "along"),))),
                ("put", ("b", "n", "m"), ("cut", (("b", "along"),))), ("tie", ("m", "n"), LAST),
                ("flip", ("e",), ("ring", (("b", "along"),))))):
            states.append((board.wiring(), board.notes(), at))
            getattr(board, deed)(*arguments)
            board.claim(note)
        for wiring, notes, many in states[::-1]:
            self.assertEqual(board.before(0), board.wiring())
            board.undo()
            self.assertEqual((board.wiring(), board.notes(), len(board)), (wiring, notes, many))
        self.assertEqual(told_error(board.undo), (NothingDone, {}))

    def test_notes_behind_a_deed_go_with_it(self):
        board = Board(HOUSE)
        board.claim(LAST)
        board.flip("d")
        board.claim(ROUND)
        board.undo()
        self.assertEqual(board.notes(), [LAST])
        board.claim(ROUND)
        board.drop("a")
        self.assertEqual(board.notes(), [LAST])
        board.undo()
        self.assertEqual(board.notes(), [LAST, ROUND])

    def test_before_and_kept(self):
        board = Board(SQUARE)
        wirings = [SQUARE]
        for deed, arguments, kept in (("turn", (("a", "b"),), 1), ("tie", ("p", "p"), 2), ("flip", ("a",), 0),
                                      ("turn", (("c", "d"),), 1), ("flip", ("a",), 0), ("flip", ("a",), 0),
                                      ("flip", ("b",), 0), ("put", ("e", "x", "y"), 0), ("tie", ("x", "q"), 1),
                                      ("flip", ("e",), 2), ("drop", ("e",), 0)):
            getattr(board, deed)(*arguments)
            wirings.append(board.wiring())
            self.assertEqual(board.kept(), kept)
            self.assertEqual([board.before(times) for times in range(len(board) + 1)], wirings[::-1])
        for _ in range(3):
            board.undo()
        self.assertEqual((board.kept(), board.before(8)), (0, SQUARE))
        self.assertEqual((Board(SQUARE).kept(), Board(SQUARE).before(0), len(Board(SQUARE))), (0, SQUARE, 0))

    def test_many_deeds(self):
        # All that the words say, by hand, beside the board.
        for seed in range(12):
            picks = Picks(seed)
            board, past, wiring, kept = Board(ONE), [], ONE, []
            for _ in range(60):
                note = self.any_note(picks, wiring)
                if told_error(board.claim, note) is None and note not in kept:
                    kept = kept + [note]
                told = self.deed(picks, board, wiring)
                if told == "undo":
                    if past:
                        wiring, kept = past.pop()
                elif told is not None:
                    past.append((wiring, kept))
                    wiring = board.wiring()
                    lost = [note for note in kept if not self.right(wiring, note)]
                    self.assertEqual(told, lost)
                    kept = [note for note in kept if note not in lost]
                self.assertEqual((board.wiring(), board.notes(), len(board)), (wiring, kept, len(past)))
                rows = [alike(ahead, wiring) for ahead, _ in past[::-1]] + [False]
                self.assertEqual(board.kept(), rows.index(False))

    def any_note(self, picks, wiring):
        names = parts(wiring) or ("a",)
        return picks.one([("ring", picks.one(rings(wiring) or [()])), ("cut", picks.one(cuts(wiring) or [()])),
                          ("alike", wiring), ("alike", ONE),
                          ("lit", picks.one(names), picks.one(names), picks.one(["always", "sometimes", "never"])),
                          ("stand", (wiring[:1], tuple(nodes(wiring[:1]))))])

    def right(self, wiring, note):
        board = Board(wiring)
        return told_error(board.claim, note) is None

    def deed(self, picks, board, wiring):
        """What a deed returns, "undo", or None if it raises an error."""
        names, places = parts(wiring) + ("z",), nodes(wiring) + ("y",)
        kind = picks.one(["put", "drop", "bridge", "flip", "flip", "tie", "turn", "hang", "undo", "undo"])
        arguments = {"put": (picks.one("abcdefg"), picks.one(places), picks.one(places)), "undo": (),
                     "tie": (picks.one(places), picks.one(places)),
                     "turn": (tuple(sorted({picks.one(names), picks.one(names)})),),
                     "hang": ((((picks.one(names), picks.one(places), "v"),), (picks.one(places),)),)}.get(
                         kind, (picks.one(names),))
        raised = told_error(getattr(copy.deepcopy(board), kind), *arguments)
        if raised is not None:
            self.assertEqual(told_error(getattr(board, kind), *arguments), raised)
            return None
        told = getattr(board, kind)(*arguments)
        return "undo" if kind == "undo" else told

    def test_turns_of_all_pieces(self):
        for wiring in (*all_wirings(3)[::6], NESTED[:7], GATE):
            names = parts(wiring)
            for piece in [(one, other) for one in names for other in names if one < other]:
                if is_piece(wiring, piece):
                    board = Board(wiring)
                    notes = [("ring", ring) for ring in rings(wiring)] + [("cut", cut) for cut in cuts(wiring)]
                    for note in [*notes, ("alike", wiring), ("lit", names[0], names[1], lit(wiring, *names[:2]))]:
                        board.claim(note)
                    self.assertEqual((board.turn(piece), board.kept()), ([], 1))


class CopiesTest(unittest.TestCase):

    def test_nothing_is_shared(self):
        given = listed(HOUSE)
        board = Board(given)
        given[0][1] = "z"
        given.pop()
        self.assertEqual(board.wiring(), HOUSE)
        note = listed(ROUND)
        board.claim(note)
        note[1][0][0] = "z"
        note.append(1)
        self.assertEqual(board.notes(), [ROUND])
        board.notes().append(LAST)
        board.flip("e").append(LAST)
        self.assertEqual((board.notes(), len(board)), ([ROUND], 1))
        unit = listed(UNIT)
        board.hang(unit)
        unit[0][0][1] = "m"
        unit[1].pop()
        names = ["c", "f"]
        board.turn(names)
        names.append("a")
        self.assertEqual(board.wiring(), turned(in_place(reversed_parts(HOUSE, "e"), UNIT), ("c", "f")))
        self.assertEqual(board.before(3), HOUSE)

    def test_copied(self):
        board = Board(HOUSE)
        board.claim(ROUND)
        board.flip("e")
        board.claim(LAST)
        board.flip("d")
        other = board.copied()
        self.assertIs(type(other), Board)
        states = [(each.wiring(), each.notes(), len(each), each.kept(), each.before(2)) for each in (board, other)]
        self.assertEqual(states[0], states[1])
        other.drop("a")
        other.undo()
        other.undo()
        other.claim(LIT)
        self.assertEqual((board.wiring(), board.notes(), len(board)), (reversed_parts(HOUSE, "de"), [ROUND, LAST], 2))
        self.assertEqual((other.wiring(), other.notes(), len(other)), (reversed_parts(HOUSE, "e"), [ROUND, LAST, LIT],
                                                                       1))
        board.undo()
        board.undo()
        board.flip("a")
        self.assertEqual((board.notes(), len(board), len(other), other.before(1)), ([], 1, 1, HOUSE))

    def test_an_empty_board(self):
        board = Board(())
        self.assertEqual((board.wiring(), board.notes(), len(board), board.kept()), ((), [], 0, 0))
        board.claim(("alike", ()))
        board.claim(("stand", ((), ("a",))))
        self.assertEqual(board.put("a", "k", "k"), [("alike", ())])
        self.assertEqual((board.put("b", "k", "l"), board.wiring()), ([], (("a", "k", "k"), ("b", "k", "l"))))
        self.assertEqual(board.notes(), [("stand", ((), ("a",)))])

    def test_other_is_alike(self):
        board = Board(ONE)
        board.claim(("alike", OTHER))
        self.assertEqual(board.flip("a"), [("alike", OTHER)])


if __name__ == "__main__":
    unittest.main()
