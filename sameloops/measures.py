"""What of a block counts for the blocks that have copies of it, in whatever number.

The measure of a block, or of an item, between its two posts is a dict: "parts", how many there are; "rank" of its
WIRING; "way", the fewest parts from post to post, None if there is no way; "barrier", the fewest parts without which
there is none; "sole", how many parts are each a barrier by itself; "direct", how many lead from post to post.
"""

from sameloops.wirings import nodes, rank, rows_from, without


def plus(one, other):
    """The sum of two numbers; None if one of them is None."""
    return None if one is None or other is None else one + other


def least(numbers):
    """The least of the numbers that are not None; None if there is none."""
    return min([number for number in numbers if number is not None], default=None)


def part_measure(start, end):
    """The measure of a part; one whose start is its end leads nowhere."""
    one = 1 if start != end else 0
    return {"parts": 1, "rank": one, "way": 1 if one else None, "barrier": one, "sole": one, "direct": one}


def row_measure(unit, many):
    """The measure of so many copies of the unit behind one another."""
    return {"parts": many * unit["parts"], "rank": many * unit["rank"],
            "way": None if unit["way"] is None else many * unit["way"], "barrier": unit["barrier"],
            "sole": many * unit["sole"], "direct": unit["direct"] if many == 1 else 0}


def bundle_measure(unit, many):
    """The measure of so many copies of the unit side by side."""
    # Behind the first copy each one closes a ring, if there is a way through it.
    closed = 0 if unit["way"] is None else many - 1
    return {"parts": many * unit["parts"], "rank": many * unit["rank"] - closed, "way": unit["way"],
            "barrier": many * unit["barrier"], "sole": unit["sole"] if many == 1 else 0,
            "direct": many * unit["direct"]}


def item_measure(item, measures):
    """The measure of an item, from those of the blocks."""
    _, kind, inner, many, start, end = item
    if kind == "part":
        return part_measure(start, end)
    return bundle_measure(measures[inner], many) if kind == "bundle" else row_measure(measures[inner], many)


def item_measures(items, measures):
    """For the WORD of each item its measure."""
    return {item[0]: item_measure(item, measures) for item in items}


def links(items, told):
    """The items through which there is a way, as a WIRING."""
    return sorted([(word, start, end) for word, _, _, _, start, end in items if told[word]["way"] is not None])


def distance(wiring, told, start, end):
    """The fewest parts of a row over items of the wiring from start to end; None if there is none."""
    known = {start: 0}
    for _ in wiring:
        for word, tail, head in wiring:
            for here, there in ((tail, head), (head, tail)):
                known[there] = least([known.get(there), plus(known.get(here), told[word]["way"])])
    return known.get(end)


def needed(wiring, start, end):
    """The items each of which is on all rows from start to end; [] if there is no such row."""
    if end not in rows_from(wiring, start):
        return []
    return [item[0] for item in wiring if end not in rows_from(without(wiring, (item[0],)), start)]


def halves_with(node, others):
    """All sets of the node and some of the others."""
    rows = [(node,)]
    for other in others:
        rows = rows + [row + (other,) for row in rows]
    return rows


def item_nodes(items):
    """The nodes that the items name."""
    return nodes([(word, start, end) for word, _, _, _, start, end in items])


def crossing(items, half):
    """The items with one end in the half and one elsewhere."""
    return [item for item in items if (item[4] in half) != (item[5] in half)]


def cost(items, told, half):
    """The fewest parts without which no row leads out of the half."""
    return sum([told[item[0]]["barrier"] for item in crossing(items, half)])


def block_measure(posts, items, told):
    """The measure of a block, from those of its items."""
    low, high = posts
    joined = links(items, told)
    others = [node for node in item_nodes(items) if node not in posts]
    return {"parts": sum([told[item[0]]["parts"] for item in items]),
            "rank": sum([told[item[0]]["rank"] for item in items]) - len(joined) + rank(joined),
            "way": distance(joined, told, low, high),
            "barrier": min([cost(items, told, half) for half in halves_with(low, others)]),
            "sole": sum([told[word]["sole"] for word in needed(joined, low, high)]),
            "direct": sum([told[item[0]]["direct"] for item in items if item[4] in posts and item[5] in posts])}


def measured(blocks):
    """For the WORD of each block its measure."""
    measures = {}
    for name, (posts, items) in blocks.items():
        measures[name] = block_measure(posts, items, item_measures(items, measures))
    return measures
