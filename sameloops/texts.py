"""Texts: wirings, tuples of pairs, amounts, names and units as lines, and netlists as people write them."""

from sameloops.errors import BadLine
from sameloops.wirings import is_name, is_part, merged, nodes, parts, renamed
from sameloops.words import is_digits

SIGNS = {"+": "along", "-": "against"}
MARKS = {"along": "+", "against": "-"}
POSTS = "posts:"


def wiring_text(wiring):
    """A line for each PART; () is the text without signs."""
    return "\n".join([" ".join(item) for item in wiring])


def signed_text(pairs):
    """One line: for each pair + or - and the part."""
    return " ".join([MARKS[way] + part for part, way in pairs])


def amounts_text(wiring, amounts):
    """A line for each part and its number."""
    return "\n".join([part + ": " + str(amount) for part, amount in zip(parts(wiring), amounts)])


def names_text(names):
    """One line with the names."""
    return " ".join(names)


def unit_text(unit):
    """A line with the posts, then the lines of the WIRING."""
    wiring, posts = unit
    return "\n".join([" ".join(words) for words in [[POSTS, *posts], *wiring]])


def parts_in(lines, first):
    """The WIRING that has these lines, of which the first one has this number in its text."""
    found = []
    for number, line in enumerate(lines, first):
        part = tuple(line.split(" "))
        if not is_part(part) or any([other[0] >= part[0] for other in found]):
            raise BadLine(number)
        found.append(part)
    return tuple(found)


def wiring_in(text):
    """The WIRING that has this text."""
    return () if text == "" else parts_in(text.split("\n"), 0)


def check_single(lines):
    """Raise BadLine for a line behind the first one."""
    if len(lines) > 1:
        raise BadLine(1)


def words_in(line):
    """The words of a single line; none if it is without signs."""
    return [] if line == "" else line.split(" ")


def signed_in(wiring, text):
    """The tuple of pairs with parts of the wiring that has this text."""
    lines = text.split("\n")
    words = words_in(lines[0])
    if not all([word[:1] in list(SIGNS) and word[1:] in parts(wiring) for word in words]):
        raise BadLine(0)
    check_single(lines)
    return tuple([(word[1:], SIGNS[word[0]]) for word in words])


def number_in(text):
    """The number that the text writes; None if it writes none."""
    digits = text[1:] if text[:1] == "-" else text
    if not is_digits(digits) or len(digits) > 60 or text == "-0":
        return None
    return int(digits) if digits == text else -int(digits)


def amounts_in(wiring, text):
    """The tuple of numbers, one for each part of the wiring, that has this text."""
    names = parts(wiring)
    if names == () and text == "":
        return ()
    found = []
    lines = text.split("\n")
    for number, line in enumerate(lines):
        words = line.split(" ")
        if number >= len(names) or len(words) != 2 or words[0] != names[number] + ":" or number_in(words[1]) is None:
            raise BadLine(number)
        found.append(number_in(words[1]))
    if len(found) < len(names):
        raise BadLine(len(lines))
    return tuple(found)


def names_in(wiring, text):
    """The set of parts of the wiring that has this text."""
    lines = text.split("\n")
    words = words_in(lines[0])
    if words != [part for part in parts(wiring) if part in words]:
        raise BadLine(0)
    check_single(lines)
    return tuple(words)


def unit_in(text):
    """The UNIT that has this text."""
    lines = text.split("\n")
    words = lines[0].split(" ")
    posts = words[1:]
    if words[0] != POSTS or not all([is_name(post) for post in posts]) or len(set(posts)) < len(posts):
        raise BadLine(0)
    return (parts_in(lines[1:], 1), tuple(posts))


def blank_words(line):
    """The words of a line of a netlist, with any blanks between, ahead of its first #."""
    return [word for word in line.split("#")[0].split(" ") if word != ""]


def netlist_in(text):
    """The WIRING of a text as people write it."""
    found = []
    joined = []
    for number, line in enumerate(text.split("\n")):
        words = blank_words(line)
        if words[:1] == ["join"] and len(words) > 2 and all([is_name(word) for word in words]):
            joined.extend([(words[1], word) for word in words[2:]])
        elif is_part(tuple(words)) and words[0] not in parts(found):
            found.append(tuple(words))
        elif words != []:
            raise BadLine(number)
    names = [*nodes(found), *[name for pair in joined for name in pair]]
    return tuple(sorted(renamed(found, merged(names, joined))))
