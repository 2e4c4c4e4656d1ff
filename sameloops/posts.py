"""Units with posts: pieces that meet the rest of a wiring at some nodes alone."""

from sameloops.alike import alike
from sameloops.cells import shared
from sameloops.errors import NoFit, NoPlace, Twice
from sameloops.rings import ring_table
from sameloops.wirings import check_parts, check_same_parts, forest, is_name, is_wiring, nodes, only, parts
from sameloops.wirings import renamed, reversed_parts, rows_from, without


def is_unit(thing):
    """Whether thing is a UNIT."""
    if type(thing) is not tuple or len(thing) != 2 or not is_wiring(thing[0]) or type(thing[1]) is not tuple:
        return False
    return all([is_name(name) for name in thing[1]]) and len(set(thing[1])) == len(thing[1])


def unit_of(wiring, names):
    """The UNIT of the parts in names; its posts are the nodes that they have in common with the others."""
    check_parts(wiring, names)
    return (only(wiring, names), shared(wiring, names))


def inner_nodes(unit):
    """The nodes that are no posts."""
    return [node for node in nodes(unit[0]) if node not in unit[1]]


def together(wiring, other):
    """The WIRING of the parts of both."""
    return tuple(sorted(without(wiring, ()) + without(other, ())))


def check_apart(wiring, other):
    """Raise Twice for the least part that both have."""
    for part in parts(wiring):
        if part in parts(other):
            raise Twice(part)


def put_into(unit, surrounding):
    """The WIRING of the parts of both."""
    check_apart(unit[0], surrounding)
    if any([node in nodes(surrounding) for node in inner_nodes(unit)]):
        raise NoFit()
    return together(unit[0], surrounding)


def named_apart(names, used):
    """For each of names a NAME of its own that is not used: the same one, where it is not."""
    told = {name: name for name in names}
    taken = [*used, *names]
    number = 0
    for name in names:
        if name in used:
            while "n" + str(number) in taken:
                number += 1
            told[name] = "n" + str(number)
            taken.append(told[name])
    return told


def in_place(wiring, unit):
    """The WIRING in which the parts of the UNIT stand as in the UNIT, all others as in the wiring."""
    posts = unit_of(wiring, parts(unit[0]))[1]
    if not all([post in unit[1] for post in posts]):
        raise NoFit()
    rest = without(wiring, parts(unit[0]))
    names = named_apart(inner_nodes(unit), [*nodes(rest), *unit[1]])
    for post in unit[1]:
        names[post] = post
    return together(renamed(unit[0], names), rest)


def turned_about(unit):
    """The UNIT with start and end of each part exchanged and its two posts, too."""
    wiring, posts = unit
    if len(posts) != 2:
        raise NoFit()
    return (reversed_parts(wiring, parts(wiring)), (posts[1], posts[0]))


def post_table(unit):
    """The ring table, and for each post the first post that is connected with it and the way from there."""
    wiring, posts = unit
    inner = only(wiring, forest(wiring))
    found = []
    for post in posts:
        rows = rows_from(inner, post)
        place = [at for at, other in enumerate(posts) if other in rows][0]
        found.append((place, tuple(sorted(rows_from(inner, posts[place])[post]))))
    return (ring_table(wiring), tuple(found))


def check_alike_shape(unit, other):
    """Raise OtherParts for the least part that only one has, then NoFit if the numbers of posts differ."""
    check_same_parts(unit[0], other[0])
    if len(unit[1]) != len(other[1]):
        raise NoFit()


def stand_for(unit, other):
    """Whether the two stand for one another."""
    check_alike_shape(unit, other)
    return post_table(unit) == post_table(other)


def with_part(unit, low, high):
    """The WIRING of the unit with a further part from the post at place low to that at place high."""
    part = named_apart(("x",), parts(unit[0]))["x"]
    return together(unit[0], ((part, unit[1][low], unit[1][high]),))


def foil(unit, other):
    """None if they stand for one another; () if not alike; else the first places between which a part tells."""
    check_alike_shape(unit, other)
    if not alike(unit[0], other[0]):
        return ()
    for low in range(len(unit[1])):
        for high in range(low + 1, len(unit[1])):
            if not alike(with_part(unit, low, high), with_part(other, low, high)):
                return (low, high)
    return None


def check_places(places, posts):
    """Raise NoPlace for the first that is no place of a post."""
    for place in places:
        if place not in range(len(posts)):
            raise NoPlace(place)


def joined_units(unit, other, pairs):
    """The UNIT of the parts of both in which the posts at each pair of places are one node."""
    check_apart(unit[0], other[0])
    check_places([pair[0] for pair in pairs], unit[1])
    check_places([pair[1] for pair in pairs], other[1])
    partners = {other[1][theirs]: unit[1][mine] for mine, theirs in pairs}
    left = [post for post in other[1] if post not in partners]
    names = named_apart(left + inner_nodes(other), [*nodes(unit[0]), *unit[1]])
    for post, partner in partners.items():
        names[post] = partner
    wiring = together(unit[0], renamed(other[0], names))
    return (wiring, tuple([*unit[1], *[names[post] for post in left]]))
