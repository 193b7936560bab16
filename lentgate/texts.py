"""Deeds and answers written as texts, and deeds read from them."""

from lentgate.ends import is_deed, is_whole
from lentgate.errors import NoRow

# The deeds that end with the text of a letter.
WITH_TEXT = ("out", "come")

FIGURES = "0123456789"
# No number of a deed has more: the greatest bound is 1000000.
MOST_FIGURES = 7


def show_part(part):
    return "any" if part is None else str(part)


def show_row(parts):
    return " ".join([show_part(part) for part in parts])


def show_deed(deed):
    if deed[0] in WITH_TEXT:
        return show_row(deed[:-1]) + " :" + deed[-1]
    return show_row(deed)


def show_answer(answer):
    if answer is None:
        return "ok"
    if is_whole(answer):
        return f"rule {answer}"
    return " ".join([show_answer(part) if isinstance(part, tuple) else str(part) for part in answer])


def is_number_word(word):
    """Whether it writes a number that a deed could have, without a nought ahead."""
    if word == "0":
        return True
    if not 1 <= len(word) <= MOST_FIGURES or word[0] == "0":
        return False
    return all([sign in FIGURES for sign in word])


def read_word(word):
    if word == "any":
        return None
    return int(word) if is_number_word(word) else word


def read_words(text):
    return tuple([read_word(word) for word in text.split(" ")])


def read_parts(text):
    """The tuple that the text writes, be it a deed or not; None where the text of a letter is wanting."""
    name = text.partition(" ")[0]
    if name not in WITH_TEXT:
        return read_words(text)
    head, colon, letter = text.partition(" :")
    return read_words(head) + (letter,) if colon else None


def read_deed(text):
    """The deed that the text writes."""
    deed = read_parts(text) if isinstance(text, str) else None
    if not is_deed(deed):
        raise NoRow("this text writes no deed")
    return deed
