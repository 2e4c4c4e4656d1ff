"""Nests for the tests, and slow answers from their unfolded wirings."""

from sameloops.rings import cuts, rings

PAIRS = ("block pair a b\npart p a m\npart q b m\nblock turned a b\npart q m a\npart p m b\nblock net a b\npart r a b\n"
         "use x pair a c\nbundle y pair 1000 c b\nblock far a b\nrow z net 10 a b")
SHEET = ("block pair a b\npart p a m\npart q b m\nblock turned a b\npart q m a\npart p m b\nblock loop a b\n"
         "row x pair 2 a b\nuse y pair a b")


class Picks:
    """Choices without an order, the same ones for the same seed."""

    def __init__(self, seed):
        self.state = seed * 7919 + 1

    def below(self, many):
        self.state = (self.state * 1103515245 + 12345) % 2 ** 31
        return (self.state >> 12) % many

    def one(self, things):
        return things[self.below(len(things))]

    def two(self, things):
        first = self.one(things)
        return first, self.one([thing for thing in things if thing != first])


def any_nest(seed):
    """A nest of some small blocks of all kinds of lines, empty ones, too."""
    picks = Picks(seed)
    lines, names = [], []
    for name in ["b0", "b1", "b2", "b3", "b4"][:2 + picks.below(4)]:
        lines.append(f"block {name} p q")
        nodes = ["p", "q", "m", "n"][:2 + picks.below(3)]
        for word in "xyzv"[:picks.below(5)]:
            kind = picks.one(["part", "part", "part", "use", "row", "bundle"])
            if kind == "part" or not names:
                lines.append(f"part {word} {picks.one(nodes)} {picks.one(nodes)}")
            else:
                start, end = picks.two(nodes)
                many = f"{1 + picks.below(3)} " if kind != "use" else ""
                lines.append(f"{kind} {word} {picks.one(names)} {many}{start} {end}")
        names.append(name)
    return "\n".join(lines)


def likely_nest(seed):
    """A nest in which many blocks have the same NAMEs of parts: three levels, each with blocks of one shape."""
    picks = Picks(seed)
    words = "xyz"[:1 + picks.below(3)]
    levels = [[("part", word, 1) for word in words]]
    for _ in range(1 + picks.below(2)):
        shape = [(picks.one(["part", "use", "many"]), word, 1 + picks.below(3)) for word in "stu"[:1 + picks.below(3)]]
        levels.append(shape)
    lines, inner = [], []
    for level, shape in enumerate(levels):
        names = [f"{'abc'[level]}{at}" for at in range(3)]
        for name in names:
            nodes = ["p", "q", "m", "n"][:2 + picks.below(3)]
            lines.append(f"block {name} p q")
            for kind, word, many in shape:
                start, end = picks.two(nodes)
                if kind == "part":
                    lines.append(f"part {word} {start} {picks.one(nodes)}")
                elif kind == "use":
                    lines.append(f"use {word} {picks.one(inner)} {start} {end}")
                else:
                    lines.append(f"{picks.one(['row', 'bundle'])} {word} {picks.one(inner)} {many} {start} {end}")
        inner = names
    return "\n".join(lines)


def with_line(wiring, posts):
    """The wiring with one more part, called 0, from the first to the second post."""
    return (("0", *posts), *wiring)


def fewest(found, part, spare=0):
    """The fewest parts of those with this part, less spare; None if there are none."""
    return min([len(pairs) - spare for pairs in found if part in dict(pairs)], default=None)


def in_pairs(found, part):
    """How many parts are with this one in pairs, itself counted."""
    return 1 + len([pairs for pairs in found if len(pairs) == 2 and part in dict(pairs)])


def slow_way(wiring, posts):
    return fewest(rings(with_line(wiring, posts)), "0", 1)


def slow_barrier(wiring, posts):
    return fewest(cuts(with_line(wiring, posts)), "0", 1)
