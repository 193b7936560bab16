"""What holds over the whole program: points 2, 3 and 6."""

import copy
import random
import unittest

from lentgate.accounts import account
from lentgate.desk import Desk
from lentgate.errors import NoForm
from lentgate.forms import holder_of, is_form
from lentgate.gate import Gate
from lentgate.looker import looked, replayed
from lentgate.meetings import meeting, meets
from lentgate.plans import need, planned
from lentgate.texts import read_deed, show_deed
from lentgate.views import got, plain_rows, went
from lentgate.yards import Yard
from test_model import done, some_deed, some_form
from things import NO_TUPLES, STRANGE, anything, form_of, looks, with_part

# Where the places, far doors, houses, doors and numbers of each deed stand.
PLACES = {"out": (4,), "come": (2,), "lost": (1, 4), "rule": (3,)}
FARS = {"out": (5,), "come": (3,), "lost": (5,)}
HOUSES = {"out": (2,), "rule": (4,)}
DOORS = {"out": (3,), "rule": (5,)}
NUMBERS = {"come": (4,), "lost": (3,), "rule": (2,)}


def exchanged(deed, where, new):
    """The deed with the parts that stand there made others."""
    for at in where.get(deed[0], ()):
        deed = with_part(deed, at, new(deed[at]))
    return deed


def some_gate(source, form, many=60):
    gate = Gate(form)
    for _ in range(many):
        done(gate, some_deed(source, form, gate))
    return gate


def deeds_of(gate):
    return [deed for deed, _ in gate.book()]


def answers_of(gate):
    return [answer for _, answer in gate.book()]


def accounts_of(gate, houses=range(4)):
    return [account(gate.form, gate.book(), house) for house in houses]


def shuffled(source, least, greatest):
    """Numbers exchanged one to one."""
    numbers = list(range(least, greatest + 1))
    return dict(zip(numbers, source.sample(numbers, len(numbers))))


def with_inner(answer, new):
    """The answer with the house and door in it made others."""
    if not isinstance(answer, tuple):
        return answer
    if answer[0] == "turned":
        return answer[:2] + (with_inner(answer[2], new),)
    return answer[:1] + new(answer[1], answer[2]) if answer[0] in ("in", "told") else answer


class ThePromise(unittest.TestCase):
    def gates(self, seed, many=100):
        source = random.Random(seed)
        for _ in range(many):
            yield source, some_gate(source, some_form(source))

    def test_houses_exchanged(self):
        for source, gate in self.gates(1):
            houses = shuffled(source, 0, 99)
            doors = shuffled(source, 1, 9999) if gate.form[4] == "next" else {door: door for door in range(10000)}
            deeds = [exchanged(exchanged(deed, HOUSES, houses.get), DOORS, doors.get) for deed in deeds_of(gate)]
            other = replayed(gate.form, deeds)
            self.assertEqual(went(other.book()), went(gate.book()))
            self.assertEqual(answers_of(other), [
                with_inner(answer, lambda house, door: (houses[house], doors[door])) for answer in answers_of(gate)])
            self.assertEqual(accounts_of(other, [houses[house] for house in range(4)]), accounts_of(gate))
            self.assertEqual((other.free(), other.rests()), (gate.free(), gate.rests()))

    def test_places_and_far_doors_exchanged(self):
        for source, gate in self.gates(2):
            places, fars = shuffled(source, 1, 50), shuffled(source, 1, 9999)
            deeds = []
            for deed in deeds_of(gate):
                # A far door of the court itself is a number.
                if deed[0] != "out" or deed[4] > 0:
                    deed = exchanged(deed, FARS, fars.get)
                deeds.append(exchanged(deed, PLACES, lambda place: places.get(place, place)))
            other = replayed(gate.form, deeds)
            self.assertEqual(answers_of(other), answers_of(gate))
            self.assertEqual(accounts_of(other), accounts_of(gate))

    def test_times_and_waits_m_times_as_long(self):
        for source, gate in self.gates(3):
            m = source.choice([2, 3, 1000])
            form = with_part(gate.form, 7, tuple([m * time for time in gate.form[7]]))
            deeds = [("wait", m * deed[1]) if deed[0] == "wait" else deed for deed in deeds_of(gate)]
            other = replayed(form, deeds)
            self.assertEqual(answers_of(other), answers_of(gate))
            self.assertEqual(other.moment(), m * gate.moment())
            self.assertEqual(accounts_of(other), [told[:4] + (m * told[4],) for told in accounts_of(gate)])

    def test_numbers_of_pool_and_rules_moved_by_as_much(self):
        source = random.Random(4)
        for _ in range(100):
            form = with_part(with_part(some_form(source), 0, 100), 1, 100 + source.randrange(4))
            gate, by = some_gate(source, form), source.choice([-90, -1, 1, 7, 9000])
            # By "keep" a door is a wish for its number, so it moves with the numbers.
            keep = by if form[4] == "keep" else 0
            deeds = [exchanged(deed, NUMBERS, lambda number: number + by) for deed in deeds_of(gate)]
            deeds = [exchanged(deed, DOORS, lambda door: door + keep) for deed in deeds]
            deeds = [with_part(deed, 5, deed[5] + by) if deed[0] == "out" and deed[4] == 0 else deed for deed in deeds]
            other = replayed((form[0] + by, form[1] + by) + form[2:], deeds)
            expected = [with_inner(answer, lambda house, door: (house, door + keep)) for answer in answers_of(gate)]
            expected = [with_part(answer, 1, answer[1] + by)
                        if isinstance(answer, tuple) and answer[0] in ("led", "turned") else answer for answer in expected]
            self.assertEqual(answers_of(other), expected)
            self.assertEqual(other.rests(), [(number + by, until) for number, until in gate.rests()])
            self.assertEqual(accounts_of(other), accounts_of(gate))

    def test_a_stricter_sieve_lets_in_no_more(self):
        found = set()
        for _, gate in self.gates(5, 200):
            by_sieve = {sieve: replayed(with_part(gate.form, 3, sieve), deeds_of(gate)) for sieve in ("all", "place", "talk")}
            for wide, strict in (("all", "place"), ("place", "talk"), ("all", "talk")):
                for lets, keeps in zip(answers_of(by_sieve[wide]), answers_of(by_sieve[strict])):
                    if lets != keeps:
                        found.add((wide, strict))
                        turned = isinstance(keeps, tuple) and keeps[0] == "turned"
                        lets, keeps = (lets[2], keeps[2]) if turned else (lets, keeps)
                        self.assertEqual((lets[0], keeps), ("in", ("kept", "sieve")))
                for strict_told, wide_told in zip(accounts_of(by_sieve[strict]), accounts_of(by_sieve[wide])):
                    self.assertLessEqual(strict_told[2], wide_told[2])
                    # All else that a house had is alike: what is let in by a sieve changes nothing.
                    self.assertEqual(with_part(strict_told, 2, 0), with_part(wide_told, 2, 0))
        self.assertEqual(len(found), 3)

    def under_way(self, source, form, r):
        """Letters that are at most r ticks under way, and are answered at once; tell how many reached another holder."""
        gate, coming, others = Gate(form), [], 0
        for _ in range(120):
            for _ in range(source.randrange(3)):
                kind, word = source.choice([("note", "say"), ("line", "open"), ("line", "break"), ("line", "say")])
                inner = (kind, source.randrange(4), source.randrange(1, 5), source.randrange(1, 3), source.randrange(1, 3))
                answer = gate.out(*inner, word, "")
                if answer[0] == "led":
                    ticks = source.randrange(r + 1) + source.randrange(r + 1)
                    back = "say" if kind == "note" else source.choice(["open", "say", "close", "break"])
                    coming.append((gate.moment() + ticks, inner, answer[1], back))
            for row in [row for row in coming if row[0] == gate.moment()]:
                _, inner, number, word = row
                holder = {lend[0]: lend[1:] for lend in gate.lends()}.get(number)
                answer = gate.come(inner[0], inner[3], inner[4], number, word, "")
                if answer[0] == "in":
                    others += holder != holder_of(form, inner) or answer[1:] != inner[1:3]
            gate.wait(1)
        return others

    def test_with_a_long_rest_no_answer_reaches_another_holder(self):
        source, others = random.Random(6), 0
        for _ in range(120):
            r = source.randrange(4)
            form = some_form(source)
            times = form[7][:3]
            self.assertEqual(self.under_way(source, with_part(form, 7, times + (2 * r + 1,)), r), 0, form)
            others += self.under_way(source, with_part(form, 7, (1, 1, 1, 0)), r + 1)
        # With no rest at all it happens now and then.
        self.assertGreater(others, 0)

    def test_each_house_gets_what_was_written_to_it_less_what_is_kept(self):
        """What came to a lent number's talk, and was not kept, is in the plain rows under the door that wrote."""
        for _, gate in self.gates(7):
            wrote = {}
            for deed, answer in gate.book():
                if deed[0] == "out" and answer[0] == "led":
                    wrote.setdefault((deed[1], answer[1], deed[4], deed[5]), set()).add(deed[2:4])
                if deed[0] == "come" and answer[0] == "in" and (deed[1], deed[4], deed[2], deed[3]) in wrote:
                    self.assertIn(("from", deed[1]) + answer[1:] + deed[2:4] + deed[5:], plain_rows(gate.book()))
            letters = [row for row in plain_rows(gate.book()) if row[0] == "to"]
            self.assertEqual([(row[1],) + row[4:] for row in letters], [(row[0],) + row[2:] for row in went(gate.book())])

    def test_books_gates_desks_and_texts_agree(self):
        for _, gate in self.gates(8, 40):
            desk = Desk(gate.form)
            for deed in deeds_of(gate):
                desk.say(show_deed(deed))
            rows = [" ".join(["any" if part is None else str(part) for part in row]) for row in gate.talks()]
            self.assertEqual(desk.say("talks"), "; ".join(rows) or "none")
            again = replayed(gate.form, [read_deed(show_deed(deed)) for deed in deeds_of(gate)])
            self.assertEqual(looks(again), looks(gate))
            self.assertIsNone(looked(gate.form, gate.book()))

    def test_a_yard_of_one_court_sees_nothing_of_its_houses(self):
        source = random.Random(9)
        for _ in range(60):
            front, form = some_form(source), with_part(some_form(source), 4, "next")
            houses, doors = shuffled(source, 0, 99), shuffled(source, 1, 9999)
            yards = [Yard(front, [form]), Yard(front, [form])]
            for _ in range(40):
                kind, word = source.choice([("note", "say"), ("line", "open"), ("line", "break")])
                house, door, place, far = source.randrange(3), source.randrange(1, 5), source.randrange(3), source.randrange(1, 5)
                if source.random() < 0.2:
                    answers = [yard.deed(("wait", far)) for yard in yards]
                else:
                    answers = [yards[0].deed(("out", 0, kind, house, door, place, far, word, "")), yards[1].deed(
                        ("out", 0, kind, houses[house], doors[door], place, far, word, ""))]
                    answers[0] = with_inner(answers[0], lambda house, door: (houses[house], doors[door]))
                self.assertEqual(answers[0], answers[1])
                self.assertEqual(yards[0].lends(), yards[1].lends())


class AnyForm(unittest.TestCase):
    """Point 6: NoForm just where is_form tells False, wherever a form is handed in."""

    def test_wherever_a_form_is_handed_in(self):
        form = form_of()
        ways = (
            Gate, Desk, lambda thing: replayed(thing, []), lambda thing: looked(thing, []),
            lambda thing: planned(thing, []), lambda thing: need(thing, []), lambda thing: Yard(thing, [form]),
            lambda thing: Yard(form, [thing]), lambda thing: Yard(form, [form, thing, form]),
            lambda thing: meeting(thing, form, (1, 1), []), lambda thing: meeting(form, thing, (1, 1), []),
            lambda thing: meets(thing, form, (1, 1), []), lambda thing: meets(form, thing, (1, 1), []),
            lambda thing: account(thing, [], 0))
        source, seen = random.Random(10), {True: 0, False: 0}
        things = STRANGE + NO_TUPLES + [anything(source) for _ in range(300)]
        for at in range(8):
            things += [with_part(form, at, anything(source)) for _ in range(100)]
            things += [with_part(form, at, thing) for thing in STRANGE + [0, 1, 100, 199, 200, 201, 9999, 10000]]
        for at in range(4):
            for time in STRANGE + [0, 1, 1000000, 1000001]:
                things.append(with_part(form, 7, with_part(form[7], at, time)))
        things += [form, form + (0,), form[:7], list(form), (form,), with_part(form, 7, list(form[7]))]
        for thing in things:
            seen[is_form(thing)] += 1
            for way in ways:
                if is_form(thing):
                    way(thing)
                else:
                    self.assertRaises(NoForm, way, thing)
        self.assertGreater(min(seen.values()), 20)


class NothingShared(unittest.TestCase):
    """Point 2: what is handed in stays as it was, and what is told is the asker's own."""

    def test_all_that_is_handed_in_stays(self):
        source = random.Random(11)
        form = form_of(sieve="all", lending="place")
        book = some_gate(source, form).book()
        deeds = [deed for deed, _ in book]
        plan = [("out", "note", 3, 40, 7, 80, "say", ""), ("wait", 3), ("back", 0, "say", "x")]
        steps, forms, doors = ["one", 5, "other"], [form, form], (40, 41)
        handed = (form, book, deeds, plan, steps, forms, doors)
        before = copy.deepcopy(handed)
        replayed(form, deeds).wait(5)
        looked(form, book)
        for view in (lambda: got(book, 1), lambda: went(book), lambda: plain_rows(book), lambda: planned(form, plan),
                     lambda: meeting(form, form, doors, steps), lambda: replayed(form, deeds).book()):
            first = view()
            kept = copy.deepcopy(first)
            first.reverse()
            first.append(None)
            self.assertEqual(view(), kept)
        need(form, plan)
        meets(form, form, doors, steps)
        account(form, book, 1)
        yard = Yard(form, forms)
        yard.deed(("out", 0, "note", 3, 40, 7, 80, "say", ""))
        self.assertEqual(handed, before)

    def test_two_gates_by_turns(self):
        source = random.Random(12)
        forms = [some_form(source) for _ in range(2)]
        forms.append(forms[0])
        gates, deeds = [Gate(form) for form in forms], [[], [], []]
        for _ in range(60):
            for gate, told in zip(gates, deeds):
                deed = some_deed(source, gate.form, gate)
                if done(gate, deed) != "refused":
                    told.append(deed)
        for gate, told in zip(gates, deeds):
            self.assertEqual(looks(gate), looks(replayed(gate.form, told)))

    def test_books_of_2000_rows(self):
        source = random.Random(13)
        form = (100, 299, "talk", "place", "next", 60, True, (40, 20, 60, 15))
        gate = Gate(form)
        while len(gate.book()) < 2000:
            kind, word = source.choice([("note", "say"), ("line", "open"), ("line", "break")])
            deed = ("out", kind, source.randrange(4), source.randrange(1, 100), source.randrange(4),
                    source.randrange(1, 300), word, "")
            gate.deed(source.choice([deed, deed, ("wait", 1)]))
        book = gate.book()
        self.assertIsNone(looked(form, book))
        self.assertEqual(looks(replayed(form, [deed for deed, _ in book])), looks(gate))
        self.assertEqual(len(went(book)) + len([1 for _, answer in book if answer and answer[0] == "turned"]),
                         sum([account(form, book, house)[0] for house in range(4)]))
        self.assertEqual(len([row for row in plain_rows(book) if row[0] == "to"]), len(went(book)))


if __name__ == "__main__":
    unittest.main()
