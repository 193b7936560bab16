"""Long rows of deeds, held against a plain model by the words of points 7 to 17, and against point 3."""

import random
import unittest

from lentgate.errors import NoRule
from lentgate.forms import holder_of
from lentgate.gate import Gate
from test_lines import table
from things import looks

STEPS = {"note": table("note"), "line": table("line")}
TIMES = {"note": 0, "asked": 1, "called": 1, "up": 2, "near": 2, "far": 2}


class Model:
    """Keeps every talk there ever was, and reckons anew what is living, lent or resting at this moment."""

    def __init__(self, form):
        self.low, self.high, self.lending, self.sieve, self.pick, self.most, self.renew, self.times = form
        self.now, self.mark, self.all_talks, self.all_rules, self.rows = 0, self.low, [], [], []

    def deed(self, deed):
        answer = getattr(self, deed[0])(*deed[1:])
        if answer != "refused":
            self.rows.append((deed, answer))
        return answer

    # What is so at this moment

    def end_of(self, talk):
        return talk["last"] if talk["state"] == "shut" else talk["last"] + self.times[TIMES[talk["state"]]]

    def living(self, **parts):
        return [talk for talk in self.all_talks if self.now < self.end_of(talk)
                and all(talk[name] == part for name, part in parts.items())]

    def in_pool(self, number):
        return self.low <= number <= self.high

    def rest_end(self, number):
        return max([self.end_of(talk) + self.times[3] for talk in self.all_talks if talk["number"] == number],
                   default=0)

    def is_free(self, number):
        return self.in_pool(number) and not self.living(number=number) and self.rest_end(number) <= self.now

    def holder(self, talk):
        parts = {"door": 3, "place": 4, "talk": 5}[self.lending]
        inner = [talk[name] for name in ("kind", "house", "door", "place", "far")]
        return tuple(inner[:parts]) + (None,) * (5 - parts)

    def lent(self):
        return {talk["number"]: self.holder(talk) for talk in self.living() if self.in_pool(talk["number"])}

    # Deeds

    def out(self, kind, house, door, place, far, word, text):
        there = self.living(kind=kind, house=house, door=door, place=place, far=far)
        state = STEPS[kind].get(("house", word, there[0]["state"] if there else None))
        if state is None:
            return ("kept", "astray")
        talk = there[0] if there else {"kind": kind, "house": house, "door": door, "place": place, "far": far}
        if not there:
            numbers = [number for number, holder in self.lent().items() if holder == self.holder(talk)]
            if not numbers:
                if len([1 for holder in self.lent().values() if holder[1] == house]) == self.most:
                    return ("kept", "most")
                numbers = self.picked(door)
                if not numbers:
                    return ("kept", "full")
                self.mark = self.low if numbers[0] == self.high else numbers[0] + 1
            talk["number"] = numbers[0]
            self.all_talks.append(talk)
        talk["state"], talk["last"] = state, self.now
        if place == 0:
            return ("turned", talk["number"], self.come(kind, 0, talk["number"], far, word, text))
        return ("led", talk["number"])

    def picked(self, door):
        order = list(range(self.mark, self.high + 1)) + list(range(self.low, self.mark))
        if self.pick == "keep":
            order = [door] + order
        return [number for number in order if self.is_free(number)]

    def come(self, kind, place, far, number, word, text):
        there = self.living(kind=kind, number=number, place=place, far=far)
        if there:
            talk = there[0]
            state = STEPS[kind].get(("far", word, talk["state"]))
            if state is None:
                return ("kept", "astray")
            if self.renew or state != talk["state"]:
                talk["state"], talk["last"] = state, self.now
            return ("in", talk["house"], talk["door"])
        if not self.in_pool(number):
            return self.come_by_rule(kind, place, far, number, word)
        holder = self.lent().get(number)
        if holder is None or holder[0] != kind:
            return ("kept", "nobody")
        if kind == "note":
            if self.sieve == "all" or self.sieve == "place" and self.living(number=number, place=place):
                return ("in", holder[1], holder[2])
        return ("kept", "sieve")

    def come_by_rule(self, kind, place, far, number, word):
        fit = [rule for rule in self.all_rules
               if rule and rule[0] == kind and rule[1] == number and rule[2] in (None, place)]
        if not fit:
            return ("kept", "nobody")
        talk = {"kind": kind, "house": fit[0][3], "door": fit[0][4], "place": place, "far": far}
        state = STEPS[kind].get(("far", word, None))
        if state is None:
            return ("kept", "astray")
        if self.living(**talk):
            return ("kept", "clash")
        self.all_talks.append({**talk, "number": number, "state": state, "last": self.now})
        return ("in", fit[0][3], fit[0][4])

    def lost(self, teller, kind, number, place, far):
        there = self.living(kind=kind, number=number, place=place, far=far)
        return ("told", there[0]["house"], there[0]["door"]) if there else ("kept", "nobody")

    def wait(self, ticks):
        self.now += ticks

    def rule(self, *rule):
        if self.in_pool(rule[1]):
            return "refused"
        self.all_rules.append(rule)
        return len(self.all_rules) - 1

    def unrule(self, k):
        if k >= len(self.all_rules) or self.all_rules[k] is None:
            return "refused"
        self.all_rules[k] = None
        return None

    # Looks

    def moment(self):
        return self.now

    def free(self):
        return len([number for number in range(self.low, self.high + 1) if self.is_free(number)])

    def lends(self):
        return [(number,) + holder for number, holder in sorted(self.lent().items())]

    def talks(self):
        names = ("kind", "number", "house", "door", "place", "far", "state")
        return sorted([tuple([talk[name] for name in names]) + (self.end_of(talk),) for talk in self.living()])

    def rests(self):
        numbers = [number for number in range(self.low, self.high + 1) if not self.living(number=number)]
        return [(number, self.rest_end(number)) for number in numbers if self.rest_end(number) > self.now]

    def rules(self):
        return [(k,) + rule for k, rule in enumerate(self.all_rules) if rule]

    def book(self):
        return list(self.rows)


def some_form(source):
    low = source.choice([1, 5, 100, 9996])
    return (
        low, low + source.randrange(4), source.choice(["door", "place", "talk"]),
        source.choice(["all", "place", "talk"]), source.choice(["next", "keep"]), source.randrange(1, 4),
        source.choice([True, False]), (source.randrange(1, 6), source.randrange(1, 4), source.randrange(1, 8),
                                       source.choice([0, 0, 1, 2, 5])))


def some_deed(source, form, gate):
    """A deed that often has to do with what the gate has just now."""
    low, high = form[:2]
    near = [number for number in range(low - 2, high + 3) if 1 <= number <= 9999]
    kind = source.choice(["note", "line"])
    words = ["say"] if kind == "note" else ["open", "open", "say", "close", "break"]
    word = source.choice(words)
    talks = [talk for talk in gate.talks() if talk[0] == kind]
    name = source.choice(["out"] * 8 + ["come"] * 6 + ["wait"] * 4 + ["rule"] * 2 + ["lost", "unrule"])
    far, place = source.choice(near), source.choice([0, 1, 1, 2])
    if name == "out":
        house, door = source.randrange(3), source.choice(near[:4])
        if talks and source.random() < 0.4:
            house, door, place, far = source.choice(talks)[2:6]
        elif source.random() < 0.4:
            # From one door of the court to another: to numbers that are lent, and to those of rules.
            place, far = 0, source.choice([far] + [row[0] for row in gate.lends()] + [row[2] for row in gate.rules()])
        return ("out", kind, house, door, place, far, word, "")
    number, place = source.choice(near), source.choice([1, 1, 2])
    if name in ("come", "lost") and talks and source.random() < 0.7:
        talk = source.choice(talks)
        number, far = talk[1], talk[5] if source.random() < 0.8 else far
        place = talk[4] if talk[4] > 0 else place
        if source.random() < 0.2:
            number = source.choice([number] + [row[2] for row in gate.rules()])
    if name == "come":
        return ("come", kind, place, far, number, word, "")
    if name == "lost":
        return ("lost", source.randrange(1, 4), kind, number, place, far)
    if name == "wait":
        return ("wait", source.choice([0, 1, 1, 1, 2, 3, 12]))
    if name == "rule":
        house, door = source.choice(talks)[2:4] if talks else (source.randrange(3), source.choice(near[:4]))
        return ("rule", kind, number, source.choice([None, 0, 1, 2]), house, door)
    return ("unrule", source.randrange(6))


def done(gate, deed):
    try:
        return gate.deed(deed)
    except NoRule:
        return "refused"


def sort_of(answer):
    """What an answer is, without the numbers in it."""
    if not isinstance(answer, tuple):
        return ("number" if isinstance(answer, int) else answer,)
    if answer[0] == "turned":
        return ("turned",) + sort_of(answer[2])
    return answer if answer[0] == "kept" else answer[:1]


KEPT_COMING = [("kept", why) for why in ("astray", "nobody", "sieve", "clash")]
EVERY_ANSWER = {
    ("out", "led"), ("out", "kept", "astray"), ("out", "kept", "most"), ("out", "kept", "full"),
    ("out", "turned", "in"), *[("out", "turned") + kept for kept in KEPT_COMING],
    ("come", "in"), *[("come",) + kept for kept in KEPT_COMING],
    ("lost", "told"), ("lost", "kept", "nobody"), ("wait", None),
    ("rule", "number"), ("rule", "refused"), ("unrule", None), ("unrule", "refused"),
}


class AgainstTheModel(unittest.TestCase):
    def go_through(self, source, form, many, seen):
        gate, model = Gate(form), Model(form)
        for _ in range(many):
            deed = some_deed(source, form, gate)
            answer = done(gate, deed)
            self.assertEqual(answer, model.deed(deed), (form, deed))
            self.assertEqual(looks(gate), looks(model), (form, deed))
            seen.add((deed[0],) + sort_of(answer))

    def test_many_rows_of_deeds(self):
        source, seen = random.Random(7), set()
        for _ in range(400):
            self.go_through(source, some_form(source), 80, seen)
        self.assertEqual(seen, EVERY_ANSWER)

    def test_a_long_row_of_deeds(self):
        source = random.Random(11)
        for lending in ("door", "place", "talk"):
            form = (100, 102, lending, "place", "keep", 2, True, (4, 3, 6, 2))
            self.go_through(source, form, 400, set())


class ThePromise(unittest.TestCase):
    """Point 3, as far as it speaks of one gate, by what the gate tells alone."""

    def check_ends(self, form, gate):
        talks, lends = gate.talks(), gate.lends()
        outer = {(kind, number, place, far) for kind, number, _, _, place, far, _, _ in talks}
        inner = {(kind, house, door, place, far) for kind, _, house, door, place, far, _, _ in talks}
        self.assertEqual((len(outer), len(inner)), (len(talks), len(talks)))
        holders = {row[0]: row[1:] for row in lends}
        self.assertEqual(len(holders), len(lends))
        self.assertEqual(len(set(holders.values())), len(lends))
        pool = range(form[0], form[1] + 1)
        self.assertEqual({talk[1] for talk in talks if talk[1] in pool}, set(holders))
        for kind, number, house, door, place, far, _, over in talks:
            self.assertGreater(over, gate.moment())
            if number in holders:
                self.assertEqual(holders[number], holder_of(form, (kind, house, door, place, far)))
        resting = [number for number, _ in gate.rests()]
        self.assertFalse(set(resting) & set(holders))
        self.assertEqual(gate.free(), len(pool) - len(resting) - len(holders))

    def test_talks_lends_and_rests_at_each_moment(self):
        source = random.Random(3)
        for _ in range(150):
            form = some_form(source)
            gate, ended = Gate(form), {}
            for _ in range(80):
                held = {row[0]: row[1:] for row in gate.lends()}
                overs = {number: max([talk[7] for talk in gate.talks() if talk[1] == number]) for number in held}
                deed = some_deed(source, form, gate)
                done(gate, deed)
                self.check_ends(form, gate)
                now = {row[0]: row[1:] for row in gate.lends()}
                for number in held:
                    if now.get(number) != held[number]:
                        ended[number] = overs[number] if deed[0] == "wait" else gate.moment()
                for number in now:
                    if number not in held and number in ended:
                        self.assertGreaterEqual(gate.moment(), ended[number] + form[7][3], form)

    def test_what_is_led_in_by_a_lent_number_reaches_the_door_that_it_is_lent_to(self):
        source = random.Random(4)
        for _ in range(100):
            form = some_form(source)
            gate = Gate(form)
            for _ in range(80):
                held = {row[0]: row[1:] for row in gate.lends()}
                deed = some_deed(source, form, gate)
                answer = done(gate, deed)
                if deed[0] == "come" and answer[0] == "in" and deed[4] in held:
                    self.assertEqual(answer[1:], held[deed[4]][1:3])
                    self.assertEqual(deed[1], held[deed[4]][0])


if __name__ == "__main__":
    unittest.main()
