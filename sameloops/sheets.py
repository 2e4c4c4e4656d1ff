"""The lines of a nest: blocks, and in each block its items.

An item is a tuple (word, kind, inner, many, start, end): a part, or so many copies of the block inner.
"""

from sameloops.errors import BadLine
from sameloops.words import are_words, is_digits

COPIES = ("use", "row", "bundle")


def is_beginning(words, blocks):
    """Whether the words begin a block that is not among the blocks."""
    if len(words) != 4 or words[0] != "block" or not are_words(words[1:]):
        return False
    return words[1] not in blocks and words[2] != words[3]


def item_in(words, ahead):
    """The item that the words write, if blocks are those that began ahead; None if there is none."""
    if words[0] == "part" and len(words) == 4 and are_words(words[1:]):
        return (words[1], "part", "", 1, words[2], words[3])
    if len(words) < 5 or words[0] not in COPIES or not are_words(words[1:3] + words[-2:]):
        return None
    if words[2] not in ahead or words[-2] == words[-1]:
        return None
    counted = words[3:-2]
    if words[0] == "use":
        return (words[1], "use", words[2], 1, words[3], words[4]) if counted == [] else None
    if len(counted) != 1 or not is_digits(counted[0]) or counted[0] == "0":
        return None
    return (words[1], words[0], words[2], int(counted[0]), words[4], words[5])


def read(text):
    """The blocks of a nest, in order: for the WORD of each the pair of its posts and its items.

    Raises BadLine for the first line that cannot stand there.
    """
    blocks = {}
    here = ""
    for number, line in enumerate(text.split("\n")):
        words = line.split(" ")
        if is_beginning(words, blocks):
            here = words[1]
            blocks[here] = ((words[2], words[3]), [])
        else:
            item = item_in(words, [name for name in blocks if name != here])
            if item is None or here == "" or item[0] in [other[0] for other in blocks[here][1]]:
                raise BadLine(number)
            blocks[here][1].append(item)
    return blocks


def lines_of(text):
    """For each line of a nest the WORD of its block and the list of its words."""
    found = []
    here = ""
    for line in text.split("\n"):
        words = line.split(" ")
        if words[0] == "block":
            here = words[1]
        found.append((here, words))
    return found


def text_of(rows):
    """The text whose lines have these lists of words."""
    return "\n".join([" ".join(words) for words in rows])


def with_ends(text, block, part, start, end):
    """The text in which the line of this part of the block has other ends; None if there is no such line."""
    rows = []
    found = False
    for here, words in lines_of(text):
        if here == block and words[:2] == ["part", part]:
            found = True
            words = ["part", part, start, end]
        rows.append(words)
    return text_of(rows) if found else None


def with_block(text, users, block, other):
    """The text in which the copies of block in the blocks users are copies of other."""
    rows = []
    for here, words in lines_of(text):
        if here in users and words[0] in COPIES and words[2] == block:
            words = words[:2] + [other] + words[3:]
        rows.append(words)
    return text_of(rows)
