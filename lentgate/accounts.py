"""Accounts: what one house had of a gate, by a book."""

from lentgate.gate import Gate
from lentgate.looker import answered_as
from lentgate.views import got


def own_answers(book, house):
    """The answers to the letters that this house wrote."""
    return [answer for deed, answer in book if deed[0] == "out" and deed[2] == house]


def ticks_lent(table, house, ticks):
    """For how many of the next ticks, in which no letter comes, numbers are lent to this house."""
    return sum([min(table.lent_until(number) - table.now, ticks) for number in table.held(house)])


def lends_had(form, book, house):
    """How many numbers were lent to this house at most at one moment, and for how many ticks in all."""
    gate = Gate(form)
    most = 0
    ticks = 0
    for deed, answer in book:
        if deed[0] == "wait":
            # Asked ahead of the wait: behind it the lends that end within are gone.
            ticks += ticks_lent(gate.table, house, deed[1])
        answered_as(gate, deed, answer)
        most = max(most, len(gate.table.held(house)))
    return (most, ticks)


def account(form, book, house):
    """The tuple (led, kept, got, most, ticks)."""
    most, ticks = lends_had(form, book, house)
    answers = own_answers(book, house)
    kept = len([answer for answer in answers if answer[0] == "kept"])
    return (len(answers) - kept, kept, len(got(book, house)), most, ticks)
