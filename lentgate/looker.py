"""Deeds and books gone through by a new gate: what it does, and whether some gate answers so."""

from lentgate.ends import is_whole
from lentgate.errors import NoDeed, NoRule
from lentgate.gate import Gate


def replayed(form, deeds):
    """A gate of this form that did these deeds."""
    gate = Gate(form)
    for deed in deeds:
        gate.deed(deed)
    return gate


def number_in(answer):
    """The number by which a letter went out, as this answer tells it; None where it tells none."""
    if not isinstance(answer, tuple) or len(answer) < 2 or answer[0] not in ("led", "turned"):
        return None
    return answer[1] if is_whole(answer[1]) else None


def answered_as(gate, deed, told):
    """What the gate answers when it picks, wherever that is free, the number that the told answer has."""
    gate.wish = number_in(told)
    return gate.deed(deed)


def is_same(answer, told):
    """Whether what is told is just this answer: True is no 1, and Python's == would take it for one."""
    if isinstance(answer, tuple):
        if not isinstance(told, tuple) or len(told) != len(answer):
            return False
        return all([is_same(part, other) for part, other in zip(answer, told)])
    return not isinstance(told, bool) and answer == told


def could_be_next(gate, row):
    """Do the deed of the row, and tell whether the gate could answer so."""
    if not isinstance(row, tuple) or len(row) != 2:
        return False
    deed, told = row
    try:
        return is_same(answered_as(gate, deed, told), told)
    except (NoDeed, NoRule):
        return False


def looked(form, book):
    """None where the form lets the book by; else the number of the first row that no such gate could have."""
    gate = Gate(form)
    for at, row in enumerate(book):
        if not could_be_next(gate, row):
            return at
    return None
