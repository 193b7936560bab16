"""The gate: deeds are done by it and answered, and it is looked at."""

from lentgate.ends import is_deed
from lentgate.errors import NoDeed, NoForm, NoRule
from lentgate.forms import is_form
from lentgate.lines import next_state
from lentgate.rules import Rules
from lentgate.talks import Talks


def talk_row(talk):
    kind, house, door, place, far = talk.inner
    return (kind, talk.number, house, door, place, far, talk.state, talk.over)


class Gate:
    def __init__(self, form):
        if not is_form(form):
            raise NoForm("this is no form of a gate")
        self.form = form
        self.table = Talks(form)
        self.strangers = Rules()
        self.done = []
        # A number to be picked where it is free: so a book of another gate can be gone through.
        self.wish = None

    def deed(self, deed):
        """Do a deed and give back its answer."""
        if not is_deed(deed):
            raise NoDeed("this is no deed")
        answer = self.answered(deed[0], deed[1:])
        self.done.append((deed, answer))
        return answer

    def out(self, kind, house, door, place, far, word, text):
        return self.deed(("out", kind, house, door, place, far, word, text))

    def come(self, kind, place, far, number, word, text):
        return self.deed(("come", kind, place, far, number, word, text))

    def lost(self, teller, kind, number, place, far):
        return self.deed(("lost", teller, kind, number, place, far))

    def wait(self, ticks):
        return self.deed(("wait", ticks))

    def rule(self, kind, number, place, house, door):
        return self.deed(("rule", kind, number, place, house, door))

    def unrule(self, k):
        return self.deed(("unrule", k))

    def moment(self):
        return self.table.now

    def free(self):
        return self.table.pool.many_free(self.table.now)

    def lends(self):
        return sorted([(number,) + holder for number, holder in self.table.holders.items()])

    def talks(self):
        return sorted([talk_row(talk) for talk in self.table.living()])

    def rests(self):
        return self.table.pool.resting(self.table.now)

    def rules(self):
        return self.strangers.listed()

    def book(self):
        return list(self.done)

    def answered(self, name, parts):
        """The answer to what is a deed, when it is done."""
        if name == "out":
            return self.sent(parts)
        if name == "come":
            kind, place, far, number, word, text = parts
            return self.come_in(kind, place, far, number, word)
        if name == "lost":
            return self.told_lost(parts)
        if name == "wait":
            self.table.pass_by(parts[0])
            return None
        if name == "rule":
            return self.rule_told(parts)
        return self.rule_dropped(parts[0])

    def sent(self, parts):
        kind, house, door, place, far, word, text = parts
        answer = self.lead_out((kind, house, door, place, far), word)
        if place != 0 or answer[0] == "kept":
            return answer
        number = answer[1]
        return ("turned", number, self.come_in(kind, 0, number, far, word))

    def lead_out(self, inner, word):
        talk = self.table.of_inner(inner)
        state = next_state(inner[0], None if talk is None else talk.state, "house", word)
        if state is None:
            return ("kept", "astray")
        if talk is None:
            return self.begin_out(inner, state)
        self.table.lead(talk, state)
        return ("led", talk.number)

    def begin_out(self, inner, state):
        number = self.table.number_of(inner)
        if number is None:
            if len(self.table.held(inner[1])) >= self.form[5]:
                return ("kept", "most")
            number = self.picked_for(inner[2])
            if number is None:
                return ("kept", "full")
            self.table.lend(number, inner)
        self.table.begin(inner, number, state)
        return ("led", number)

    def picked_for(self, door):
        pool, now = self.table.pool, self.table.now
        if self.wish is not None and pool.is_free(self.wish, now):
            return self.wish
        return pool.picked(self.form[4], door, now)

    def come_in(self, kind, place, far, number, word):
        talk = self.table.of_outer(kind, number, place, far)
        if talk is not None:
            return self.lead_in(talk, word)
        if self.table.pool.has(number):
            return self.sifted(kind, place, number)
        return self.come_by_rule(kind, place, far, number, word)

    def lead_in(self, talk, word):
        kind, house, door, place, far = talk.inner
        state = next_state(kind, talk.state, "far", word)
        if state is None:
            return ("kept", "astray")
        renew = self.form[6]
        if renew or state != talk.state:
            self.table.lead(talk, state)
        return ("in", house, door)

    def sifted(self, kind, place, number):
        """The answer to a letter of a stranger by a number of the pool; it changes nothing."""
        holder = self.table.holder_at(number)
        if holder is None or holder[0] != kind:
            return ("kept", "nobody")
        if kind == "line" or not self.lets_note_in(place, number):
            return ("kept", "sieve")
        return ("in", holder[1], holder[2])

    def lets_note_in(self, place, number):
        sieve = self.form[3]
        return sieve == "all" or (sieve == "place" and self.table.is_with(number, place))

    def come_by_rule(self, kind, place, far, number, word):
        to = self.strangers.door_for(kind, number, place)
        if to is None:
            return ("kept", "nobody")
        house, door = to
        state = next_state(kind, None, "far", word)
        if state is None:
            return ("kept", "astray")
        inner = (kind, house, door, place, far)
        if self.table.of_inner(inner) is not None:
            return ("kept", "clash")
        self.table.begin(inner, number, state)
        return ("in", house, door)

    def told_lost(self, parts):
        teller, kind, number, place, far = parts
        talk = self.table.of_outer(kind, number, place, far)
        if talk is None:
            return ("kept", "nobody")
        return ("told", talk.inner[1], talk.inner[2])

    def rule_told(self, parts):
        kind, number, place, house, door = parts
        if self.table.pool.has(number):
            raise NoRule("the number of a rule is none of the pool")
        return self.strangers.tell(kind, number, place, house, door)

    def rule_dropped(self, k):
        if not self.strangers.stands(k):
            raise NoRule("no rule of this number stands")
        self.strangers.drop(k)
        return None
