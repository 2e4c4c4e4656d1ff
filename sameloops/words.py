"""Words and numbers in lines of texts."""

from sameloops.wirings import is_name

DIGITS = "0123456789"


def is_word(text):
    """Whether the text is a NAME without points."""
    return is_name(text) and "." not in text


def are_words(texts):
    """Whether all of the texts are NAMEs without points."""
    return all([is_word(text) for text in texts])


def is_digits(text):
    """Whether the text is a number of at least 0 in digits without leading zeros."""
    if text == "" or not all([sign in DIGITS for sign in text]):
        return False
    return text == "0" or text[0] != "0"
