"""The desk: requests about a nest, in lines of a text, and their answers."""

from sameloops.errors import BadLine, NoBlock, NoPart, NothingDone
from sameloops.nests import Nest
from sameloops.wirings import is_name
from sameloops.words import are_words

# How many WORDs stand behind the first word of a request, and how many NAMEs behind these.
REQUESTS = {"size": (1, 0), "way": (1, 0), "barrier": (1, 0), "ends": (1, 1), "ring": (1, 1), "cut": (1, 1),
            "row": (1, 1), "bundle": (1, 1), "alike": (2, 0), "piece": (2, 0), "set": (4, 0), "swap": (2, 0),
            "back": (0, 0)}


def is_request(words):
    """Whether the words are a request."""
    if words[0] not in REQUESTS:
        return False
    many, names = REQUESTS[words[0]]
    if len(words) != 1 + many + names or not are_words(words[1:1 + many]):
        return False
    return all([is_name(word) for word in words[1 + many:]])


def number_text(number):
    """The number, - for None."""
    return "-" if number is None else str(number)


def answer_of_block(nest, word, block):
    """The answer to a request that names a block alone."""
    if word == "size":
        return " ".join([str(number) for number in nest.size(block)])
    return number_text(nest.way(block) if word == "way" else nest.barrier(block))


def answer_of_path(nest, word, block, path):
    """The answer to a request that names a block and a path."""
    if word == "ends":
        return " ".join(nest.ends(block, path))
    if word == "ring":
        return number_text(nest.least_ring(block, path))
    if word == "cut":
        return number_text(nest.least_cut(block, path))
    return str(nest.row_mates(block, path) if word == "row" else nest.bundle_mates(block, path))


def answer_of_pair(nest, word, block, other):
    """The answer to a request that compares two blocks."""
    return "yes" if (nest.alike(block, other) if word == "alike" else nest.alike_pieces(block, other)) else "no"


def answer(nests, words):
    """The answer to a request about the last of the nests; a deed puts a further one behind it or takes it away."""
    nest = nests[len(nests) - 1]
    if words[0] == "back":
        if len(nests) == 1:
            raise NothingDone()
        nests.pop()
        return "done"
    if words[0] == "set":
        nests.append(nest.changed(words[1], words[2], words[3], words[4]))
        return "done"
    if words[0] == "swap":
        nests.append(nest.swapped(words[1], words[2]))
        return "done"
    if words[0] in ("alike", "piece"):
        return answer_of_pair(nest, words[0], words[1], words[2])
    if len(words) == 2:
        return answer_of_block(nest, words[0], words[1])
    return answer_of_path(nest, words[0], words[1], words[2])


def answer_or_refusal(nests, words):
    """The answer to a request, or the name of the error that it raises."""
    try:
        return answer(nests, words)
    except NoBlock:
        return "refused NoBlock"
    except NoPart:
        return "refused NoPart"
    except NothingDone:
        return "refused NothingDone"


def answers(text):
    """The answers to the requests behind the lines of a nest and a line without signs."""
    lines = text.split("\n")
    parting = lines.index("") if "" in lines else len(lines)
    nests = [Nest("\n".join(lines[:parting]))]
    if parting == len(lines):
        raise BadLine(parting)
    requests = [line.split(" ") for line in lines[parting + 1:]]
    for number, words in enumerate(requests, parting + 1):
        if not is_request(words):
            raise BadLine(number)
    return [answer_or_refusal(nests, words) for words in requests]
