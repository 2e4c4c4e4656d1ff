"""A part deep in a block, found by its path, and what it is for the blocks around it.

The place of a part in a block, or in an item, is a dict. Let the line be one more part from post to post. "ring" is
the fewest parts of a RING with this part, "through" those of one that has the line, too, without the line; "within"
is the fewest parts of a CUT with this part that leaves the posts together, "across" those of one that parts them
(None where there is none). "alone" is how many parts have its current, but for the sign, "held" how many with the
line, and "only" whether the line has it, too; "beside" is how many have its voltage, and "direct" whether the line has
it.
"""

from sameloops.measures import cost, crossing, distance, halves_with, item_measures, item_nodes, least, links, needed
from sameloops.measures import plus
from sameloops.rings import simple_rows
from sameloops.wirings import rows_from, without
from sameloops.words import is_digits

LINE = ""


def is_copy_number(text, many):
    """Whether the text is a number below many."""
    return is_digits(text) and len(text) <= len(str(many)) and int(text) < many


def named(items, word):
    """The item with this WORD; None if there is none."""
    for item in items:
        if item[0] == word:
            return item
    return None


def outer_name(item, number, posts, node):
    """The NAME in a block of a node of the copy of this number in its item, posts being those of the copy."""
    word, kind, _, many, start, end = item
    if kind == "row" and node == posts[0] and number > 0:
        return word + "." + str(number)
    if kind == "row" and node == posts[1] and number < many - 1:
        return word + "." + str(number + 1)
    if node in posts:
        return start if node == posts[0] else end
    return inner_name(item, number, node)


def inner_name(item, number, name):
    """The NAME in a block of a part or an inner node of the copy of this number in its item."""
    ahead = item[0] if item[1] == "use" else item[0] + "." + str(number)
    return ahead + "." + name


def ends_in(blocks, block, words):
    """The start and the end of the part of the block with this path; None if there is none."""
    item = named(blocks[block][1], words[0])
    if item is None:
        return None
    if item[1] == "part":
        return (item[4], item[5]) if len(words) == 1 else None
    number = 0
    if item[1] != "use":
        if len(words) < 2 or not is_copy_number(words[1], item[3]):
            return None
        number = int(words[1])
    inner = words[1:] if item[1] == "use" else words[2:]
    ends = ends_in(blocks, item[2], inner) if inner else None
    if ends is None:
        return None
    return tuple([outer_name(item, number, blocks[item[2]][0], node) for node in ends])


def unfolded_in(blocks, measures, block):
    """The WIRING of the block."""
    found = []
    for item in blocks[block][1]:
        word, kind, inner, many, start, end = item
        if kind == "part":
            found.append((word, start, end))
        elif measures[inner]["parts"] > 0:
            posts = blocks[inner][0]
            wiring = unfolded_in(blocks, measures, inner)
            for number in range(many):
                found.extend([(inner_name(item, number, part), outer_name(item, number, posts, tail),
                               outer_name(item, number, posts, head)) for part, tail, head in wiring])
    return tuple(sorted(found))


def place_of_part(start, end):
    """The place of a part in itself."""
    joined = start != end
    return {"ring": None if joined else 1, "through": 1 if joined else None, "within": None,
            "across": 1 if joined else None, "alone": 1, "held": 1, "only": joined, "beside": 1, "direct": joined}


def place_in_row(place, unit, others):
    """The place of a part in a row of a copy of the unit that has it and so many others."""
    told = dict(place)
    if others > 0:
        told["through"] = plus(place["through"], None if unit["way"] is None else others * unit["way"])
        told["within"] = least([place["within"], plus(place["across"], unit["barrier"])])
        told["across"] = least([place["across"], plus(place["within"], unit["barrier"])])
        told["direct"] = False
        if place["only"]:
            told["held"] = place["held"] + others * unit["sole"]
    return told


def place_in_bundle(place, unit, others):
    """The place of a part in a bundle of a copy of the unit that has it and so many others."""
    told = dict(place)
    told["across"] = plus(place["across"], others * unit["barrier"])
    told["only"] = place["only"] and others == 0
    if others > 0:
        told["ring"] = least([place["ring"], plus(place["through"], unit["way"])])
        told["alone"] = place["held"] + (unit["sole"] if place["only"] and others == 1 else 0)
    return told


def fewest_through(joined, told, posts, item, place):
    """The fewest parts of a row from post to post that has the part at this place in the item; None if none has."""
    if place["through"] is None:
        return None
    word = item[0]
    rows = [[passed for passed, _ in row] for row in simple_rows(joined, posts[0], posts[1])]
    return least([place["through"] + sum([told[passed]["way"] for passed in row if passed != word])
                  for row in rows if word in row])


def fewest_around(posts, items, told, item, place):
    """The fewest parts of a CUT with the part at this place in the item that leaves the posts together, and of one
    that parts them."""
    low, high = posts
    others = [other for other in items if other != item]
    together, apart = None, None
    for half in halves_with(low, [high] + [node for node in item_nodes(items) if node not in posts]):
        own = place["across"] if crossing([item], half) else place["within"]
        many = plus(own, cost(others, told, half))
        if high in half:
            together = least([together, many])
        else:
            apart = least([apart, many])
    return together, apart


def mates_at(rest, told, item, place):
    """How many parts have the current of the part at this place in the item, but for the sign, beside the rest."""
    if item[5] not in rows_from(rest, item[4]):
        return place["alone"]
    if not place["only"]:
        return place["held"]
    return place["held"] + sum([told[word]["sole"] for word in needed(rest, item[4], item[5]) if word != LINE])


def place_in_block(posts, items, told, item, place):
    """The place in the block of the part at this place in the item, told being the measures of its items."""
    joined = links(items, told)
    rest = without(joined, (item[0],))
    held = (*rest, (LINE, posts[0], posts[1]))
    together, apart = fewest_around(posts, items, told, item, place)
    beside = [other for other in items if sorted(other[4:]) == sorted(item[4:])]
    return {"ring": least([place["ring"], plus(place["through"], distance(rest, told, item[4], item[5]))]),
            "through": fewest_through(joined, told, posts, item, place), "within": together, "across": apart,
            "alone": mates_at(rest, told, item, place), "held": mates_at(held, told, item, place),
            "only": place["only"] and LINE in needed(held, item[4], item[5]),
            "beside": sum([told[other[0]]["direct"] for other in beside]) if place["direct"] else place["beside"],
            "direct": place["direct"] and sorted(item[4:]) == sorted(posts)}


def place_in(blocks, measures, block, words):
    """The place in the block of its part with this path."""
    posts, items = blocks[block]
    item = named(items, words[0])
    if item[1] == "part":
        place = place_of_part(item[4], item[5])
    elif item[1] == "use":
        place = place_in(blocks, measures, item[2], words[1:])
    else:
        inner = place_in(blocks, measures, item[2], words[2:])
        adding = place_in_row if item[1] == "row" else place_in_bundle
        place = adding(inner, measures[item[2]], item[3] - 1)
    return place_in_block(posts, items, item_measures(items, measures), item, place)
