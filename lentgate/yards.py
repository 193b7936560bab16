"""Yards: courts with gates of their own behind one more gate, to which each court is a house."""

from lentgate.ends import is_deed, is_out, is_whole_within, name_of
from lentgate.errors import NoDeed, NoForm
from lentgate.forms import is_form
from lentgate.gate import Gate

MOST_COURTS = 20


def is_yard_deed(thing, many_courts):
    """Tell True or False, of anything."""
    name = name_of(thing)
    if name == "out":
        # Behind the name stands the court, then all that an out of this court has.
        return len(thing) > 1 and is_whole_within(thing[1], 0, many_courts - 1) and is_out(thing[2:])
    return name in ("come", "lost", "wait") and is_deed(thing)


def is_forms(thing):
    """Whether these can be the forms of a yard's courts."""
    if not isinstance(thing, list) or not 1 <= len(thing) <= MOST_COURTS:
        return False
    return all([is_form(form) for form in thing])


def court_answer(court, answer):
    """What a yard answers where its own gate leads in to a court, and the court's gate answers so."""
    if answer[0] == "kept":
        return ("stopped", court, answer[1])
    led_in, house, door = answer
    return (led_in, court, house, door)


class Yard:
    def __init__(self, form, forms):
        if not is_form(form) or not is_forms(forms):
            raise NoForm("these are no forms of a yard and its courts")
        self.front = Gate(form)
        self.courts = [Gate(court_form) for court_form in forms]

    def deed(self, deed):
        """Do a deed and give back its answer."""
        if not is_yard_deed(deed, len(self.courts)):
            raise NoDeed("this is no deed of this yard")
        if deed[0] == "out":
            return self.write_out(deed[1], deed[2:])
        if deed[0] == "come":
            return self.lead_on(deed)
        if deed[0] == "lost":
            return self.tell_on(deed)
        return self.go_by(deed)

    def moment(self):
        return self.front.moment()

    def lends(self):
        return self.front.lends()

    def talks(self):
        return [gate.talks() for gate in self.courts]

    def ways(self):
        """The talks of courts that go on through the yard's gate, each with both numbers."""
        outers = {talk.inner: talk.number for talk in self.front.table.living()}
        rows = []
        for court, gate in enumerate(self.courts):
            for talk in gate.table.living():
                kind, house, door, place, far = talk.inner
                behind = (kind, court, talk.number, place, far)
                if behind in outers:
                    rows.append((kind, court, house, door, place, far, talk.number, outers[behind]))
        return sorted(rows)

    def write_out(self, court, parts):
        answer = self.courts[court].deed(("out",) + parts)
        if answer[0] != "led":
            return answer
        number = answer[1]
        kind, house, door, place, far, word, text = parts
        further = self.front.out(kind, court, number, place, far, word, text)
        if further[0] == "kept":
            return ("stopped", number, further[1])
        return ("led", number, further[1])

    def lead_on(self, deed):
        answer = self.front.deed(deed)
        if answer[0] == "kept":
            return answer
        led_in, court, number = answer
        name, kind, place, far, outer, word, text = deed
        return court_answer(court, self.courts[court].come(kind, place, far, number, word, text))

    def tell_on(self, deed):
        answer = self.front.deed(deed)
        if answer[0] == "kept":
            return answer
        told, court, number = answer
        name, teller, kind, outer, place, far = deed
        return court_answer(court, self.courts[court].lost(teller, kind, number, place, far))

    def go_by(self, deed):
        self.front.deed(deed)
        for gate in self.courts:
            gate.deed(deed)
        return None
