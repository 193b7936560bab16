"""The living talks of one gate, and the numbers that are lent for them."""

from lentgate.forms import holder_of, time_of
from lentgate.pool import Pool


class Talk:
    """A talk by its inner end; over is the moment from which on it is over, if no letter comes."""

    def __init__(self, inner, number, state, over):
        self.inner = inner
        self.number = number
        self.state = state
        self.over = over


class Talks:
    def __init__(self, form):
        self.form = form
        self.pool = Pool(form[0], form[1])
        self.now = 0
        self.by_inner = {}
        # For each number the talks that go by it, found by (kind, place, far): with it their outer end.
        self.by_number = {}
        # The lent numbers and their holders, both ways round.
        self.holders = {}
        self.numbers = {}

    def of_inner(self, inner):
        """The living talk with this inner end, or None."""
        return self.by_inner.get(inner)

    def of_outer(self, kind, number, place, far):
        """The living talk with this outer end, or None."""
        if number not in self.by_number:
            return None
        return self.by_number[number].get((kind, place, far))

    def is_with(self, number, place):
        """Whether some living talk that goes by this number is with this place."""
        return any([talk.inner[3] == place for talk in self.by_number[number].values()])

    def living(self):
        return list(self.by_inner.values())

    def is_living(self, talk):
        """Whether it is this very talk that lives, not one that began anew by the same ends."""
        return self.by_inner.get(talk.inner) == talk

    def number_of(self, inner):
        """The number that is lent to the holder of this inner end, or None."""
        return self.numbers.get(holder_of(self.form, inner))

    def holder_at(self, number):
        """The holder to whom this number is lent, or None."""
        return self.holders.get(number)

    def held(self, house):
        """The numbers that are lent to this house."""
        return [number for number, holder in self.holders.items() if holder[1] == house]

    def lent_until(self, number):
        """The moment at which the lend of this number ends, if no letter comes."""
        return max([talk.over for talk in self.by_number[number].values()])

    def lend(self, number, inner):
        holder = holder_of(self.form, inner)
        self.pool.take(number)
        self.holders[number] = holder
        self.numbers[holder] = number

    def end_lend(self, number, moment):
        del self.numbers[self.holders[number]]
        del self.holders[number]
        self.pool.give(number, moment + self.form[7][3])

    def begin(self, inner, number, state):
        kind, house, door, place, far = inner
        talk = Talk(inner, number, state, self.now + time_of(self.form, state))
        self.by_inner[inner] = talk
        if number not in self.by_number:
            self.by_number[number] = {}
        self.by_number[number][(kind, place, far)] = talk

    def lead(self, talk, state):
        """Lead a living talk to a state, by a letter that makes this its last moment."""
        if state == "shut":
            self.end(talk, self.now)
            return
        talk.state = state
        talk.over = self.now + time_of(self.form, state)

    def end(self, talk, moment):
        """Take away a talk that is over from this moment on, and with a number's last talk its lend."""
        kind, house, door, place, far = talk.inner
        number = talk.number
        del self.by_inner[talk.inner]
        del self.by_number[number][(kind, place, far)]
        if len(self.by_number[number]) > 0:
            return
        del self.by_number[number]
        # The number of a rule bears talks too, but is lent to nobody.
        if number in self.holders:
            self.end_lend(number, moment)

    def pass_by(self, ticks):
        self.now += ticks
        ended = [talk for talk in self.living() if talk.over <= self.now]
        # In the order of their ends, so that a lend ends when the last talk of its number was over.
        for talk in sorted(ended, key=lambda one: one.over):
            self.end(talk, talk.over)
