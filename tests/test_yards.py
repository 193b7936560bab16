"""Yards: courts behind one more gate (points 3, 24 and 25)."""

import copy
import random
import unittest

from lentgate.errors import GateError, NoDeed, NoForm
from lentgate.forms import is_form
from lentgate.gate import Gate
from lentgate.yards import Yard
from test_model import some_deed, some_form
from things import NO_TUPLES, STRANGE, anything, form_of, part_twice, with_part, without_part

FRONT = form_of(low=500, high=509, most=9)
COURT = form_of(low=100, high=103)
YARD_LOOKS = ("moment", "lends", "talks", "ways")


def yard_of(*forms, **parts):
    """A yard with these forms of courts, or two plain ones; the parts are those of the yard's form."""
    return Yard(form_of(**{"low": 500, "high": 509, "most": 9, **parts}), list(forms) or [COURT, COURT])


def out(court, place=7, far=80, house=3, door=40, kind="note", word="say", text=""):
    return ("out", court, kind, house, door, place, far, word, text)


def come(number, place=7, far=80, kind="note", word="say", text=""):
    return ("come", kind, place, far, number, word, text)


def lost(number, place=7, far=80, kind="note", teller=9):
    return ("lost", teller, kind, number, place, far)


def yard_looks(yard):
    return {name: getattr(yard, name)() for name in YARD_LOOKS}


class Answers(unittest.TestCase):
    def test_led_out_by_both(self):
        yard = yard_of()
        self.assertEqual(yard.deed(out(0)), ("led", 100, 500))
        self.assertEqual(yard.deed(out(0, door=41)), ("led", 101, 501))
        self.assertEqual(yard.deed(out(1)), ("led", 100, 502))
        self.assertEqual(yard.deed(out(0, text="once more")), ("led", 100, 500))
        self.assertEqual(yard.lends(), [
            (500, "note", 0, 100, 7, 80), (501, "note", 0, 101, 7, 80), (502, "note", 1, 100, 7, 80)])
        self.assertEqual(yard.talks(), [
            [("note", 100, 3, 40, 7, 80, "note", 10), ("note", 101, 3, 41, 7, 80, "note", 10)],
            [("note", 100, 3, 40, 7, 80, "note", 10)]])

    def test_the_courts_number_is_the_door(self):
        yard = Yard(form_of(low=100, high=109, pick="keep"), [form_of(low=105, high=106, pick="keep")])
        self.assertEqual(yard.deed(out(0, door=106)), ("led", 106, 106))
        self.assertEqual(yard.deed(out(0, door=40)), ("led", 105, 105))

    def test_kept_by_the_courts_gate(self):
        yard = yard_of(form_of(low=100, high=100), form_of(low=100, high=103, most=1))
        yard.deed(out(0))
        yard.deed(out(1))
        self.assertEqual(yard.deed(out(0, far=81)), ("kept", "full"))
        self.assertEqual(yard.deed(out(1, far=81)), ("kept", "most"))
        self.assertEqual(yard.deed(out(1, kind="line", word="say")), ("kept", "astray"))
        self.assertEqual(len(yard.lends()), 2)

    def test_turned_by_the_courts_gate(self):
        yard = yard_of(form_of(sieve="all"), COURT)
        self.assertEqual(yard.deed(out(0)), ("led", 100, 500))
        self.assertEqual(yard.deed(out(0, place=0, far=100, door=41)), ("turned", 101, ("in", 3, 40)))
        self.assertEqual(yard.deed(out(0, place=0, far=9, door=41)), ("turned", 102, ("kept", "nobody")))
        self.assertEqual(yard.deed(out(1, place=0, far=101, door=41)), ("turned", 100, ("kept", "nobody")))
        # It goes no further than its own court.
        self.assertEqual(len(yard.lends()), 1)
        self.assertEqual(yard.ways(), [("note", 0, 3, 40, 7, 80, 100, 500)])

    def test_stopped_going_out(self):
        yard = yard_of(high=500)
        yard.deed(out(0))
        self.assertEqual(yard.deed(out(1)), ("stopped", 100, "full"))
        self.assertEqual(yard.deed(out(0, far=81)), ("stopped", 101, "full"))
        yard = yard_of(most=1)
        yard.deed(out(0))
        self.assertEqual(yard.deed(out(0, far=81)), ("stopped", 101, "most"))
        self.assertEqual(yard.deed(out(1, far=81)), ("led", 100, 501))

    def test_stopped_as_astray(self):
        # The court's line is up for longer than the yard's one is living.
        yard = yard_of(times=(10, 2, 2, 7))
        yard.deed(out(0, kind="line", word="open"))
        yard.deed(come(500, kind="line", word="open"))
        yard.deed(("wait", 2))
        self.assertEqual(yard.deed(out(0, kind="line", word="say")), ("stopped", 100, "astray"))
        self.assertEqual(yard.deed(out(0, kind="line", word="break")), ("stopped", 100, "astray"))
        self.assertEqual(yard.talks()[0], [])

    def test_led_in_by_both(self):
        yard = yard_of()
        yard.deed(out(0))
        yard.deed(out(1, door=41, house=5))
        self.assertEqual(yard.deed(come(500)), ("in", 0, 3, 40))
        self.assertEqual(yard.deed(come(501)), ("in", 1, 5, 41))

    def test_kept_by_the_yards_gate(self):
        yard = yard_of()
        yard.deed(out(0))
        self.assertEqual(yard.deed(come(501)), ("kept", "nobody"))
        self.assertEqual(yard.deed(come(500, far=81)), ("kept", "sieve"))
        self.assertEqual(yard.deed(come(500, kind="line", word="open")), ("kept", "nobody"))
        # A number of a court's gate is none of the yard's.
        self.assertEqual(yard.deed(come(100)), ("kept", "nobody"))
        yard.deed(out(0, kind="line", word="open"))
        self.assertEqual(yard.deed(come(501, kind="line", word="say")), ("kept", "astray"))
        self.assertEqual(yard.deed(lost(500, far=81)), ("kept", "nobody"))
        self.assertEqual(yard.deed(lost(100)), ("kept", "nobody"))

    def test_stopped_coming_in(self):
        yard = yard_of(sieve="all")
        yard.deed(out(0))
        yard.deed(out(1))
        self.assertEqual(yard.deed(come(500, far=81)), ("stopped", 0, "sieve"))
        self.assertEqual(yard.deed(come(501, far=81)), ("stopped", 1, "sieve"))
        # The yard's talk lives on where the court's is over.
        yard = yard_of(times=(30, 30, 30, 7))
        yard.deed(out(1))
        yard.deed(("wait", 10))
        self.assertEqual(yard.deed(come(500)), ("stopped", 1, "nobody"))
        self.assertEqual(yard.deed(lost(500)), ("stopped", 1, "nobody"))

    def test_stopped_coming_in_as_astray(self):
        # Both lines are up; then the court's own is over and begins anew, by the same number.
        yard = Yard(form_of(low=500, high=509, times=(10, 30, 30, 7)), [form_of(times=(10, 2, 2, 0), high=100)])
        yard.deed(out(0, kind="line", word="open"))
        self.assertEqual(yard.deed(come(500, kind="line", word="open")), ("in", 0, 3, 40))
        yard.deed(("wait", 2))
        self.assertEqual(yard.deed(out(0, kind="line", word="open")), ("stopped", 100, "astray"))
        self.assertEqual(yard.deed(come(500, kind="line", word="say")), ("stopped", 0, "astray"))

    def test_lost_by_both(self):
        yard = yard_of()
        yard.deed(out(0, kind="line", word="open"))
        yard.deed(out(1, door=41, house=5))
        self.assertEqual(yard.deed(lost(500, kind="line")), ("told", 0, 3, 40))
        self.assertEqual(yard.deed(lost(501, teller=1000000)), ("told", 1, 5, 41))

    def test_wait(self):
        yard = yard_of(times=(4, 5, 20, 7))
        yard.deed(out(0))
        yard.deed(out(1))
        self.assertIsNone(yard.deed(("wait", 3)))
        self.assertEqual(yard.moment(), 3)
        self.assertEqual(len(yard.ways()), 2)
        self.assertIsNone(yard.deed(("wait", 1)))
        self.assertEqual((yard.moment(), yard.lends()), (4, []))
        self.assertEqual([len(rows) for rows in yard.talks()], [1, 1])
        yard.deed(("wait", 6))
        self.assertEqual(yard.talks(), [[], []])
        self.assertIsNone(yard.deed(("wait", 0)))
        self.assertEqual(yard.moment(), 10)

    def test_one_court_and_twenty(self):
        for many in (1, 2, 20):
            yard = Yard(FRONT[:1] + (600,) + FRONT[2:], [COURT] * many)
            for court in range(many):
                self.assertEqual(yard.deed(out(court)), ("led", 100, 500 + court))
            for court in range(many):
                self.assertEqual(yard.deed(come(500 + court)), ("in", court, 3, 40))
            self.assertEqual([row[1] for row in yard.ways()], list(range(many)))
            self.assertEqual(len(yard.talks()), many)
            self.assertRaises(NoDeed, yard.deed, out(many))

    def test_courts_have_forms_of_their_own(self):
        yard = yard_of(form_of(lending="door", high=100), form_of(low=9, high=9), form_of(low=7, lending="place"))
        self.assertEqual([yard.deed(out(court)) for court in (0, 1, 2)], [
            ("led", 100, 500), ("led", 9, 501), ("led", 7, 502)])
        self.assertEqual([yard.deed(out(court, place=8)) for court in (0, 1, 2)], [
            ("led", 100, 503), ("kept", "full"), ("led", 8, 504)])


class WhatOneGateDidStays(unittest.TestCase):
    def test_going_out(self):
        yard = yard_of(high=500)
        yard.deed(out(0))
        self.assertEqual(yard.deed(out(1, door=41)), ("stopped", 100, "full"))
        self.assertEqual(yard.talks()[1], [("note", 100, 3, 41, 7, 80, "note", 10)])
        self.assertEqual(yard.lends(), [(500, "note", 0, 100, 7, 80)])
        self.assertEqual(yard.ways(), [("note", 0, 3, 40, 7, 80, 100, 500)])
        # The number stays lent: the next door has another one.
        self.assertEqual(yard.deed(out(1, door=42)), ("stopped", 101, "full"))
        self.assertEqual(yard.deed(out(1, door=41)), ("stopped", 100, "full"))
        yard.deed(("wait", 17))
        self.assertEqual(yard.deed(out(1, door=41)), ("led", 102, 500))

    def test_coming_in(self):
        # A note that the yard's gate led in renews its talk, though the court's gate keeps it.
        yard = yard_of(times=(30, 30, 30, 7), renew=True)
        yard.deed(out(0))
        yard.deed(("wait", 20))
        self.assertEqual(yard.deed(come(500)), ("stopped", 0, "nobody"))
        yard.deed(("wait", 29))
        self.assertEqual(yard.lends(), [(500, "note", 0, 100, 7, 80)])
        self.assertEqual(yard.deed(come(500)), ("stopped", 0, "nobody"))

    def test_a_line_that_is_shut_by_the_yards_gate_alone(self):
        yard = yard_of(form_of(times=(10, 2, 2, 7)), times=(10, 30, 30, 7))
        yard.deed(out(0, kind="line", word="open"))
        yard.deed(("wait", 2))
        self.assertEqual(yard.deed(come(500, kind="line", word="break")), ("stopped", 0, "nobody"))
        self.assertEqual(yard.deed(come(500, kind="line", word="break")), ("kept", "nobody"))
        self.assertEqual(yard.lends(), [])


class Ways(unittest.TestCase):
    def test_none(self):
        self.assertEqual(yard_of().ways(), [])

    def test_sorted(self):
        yard = yard_of(form_of(high=110, most=9), form_of(high=110, most=9), most=20, high=520)
        for deed in (out(1, door=9), out(1), out(0, far=81), out(0, far=9, door=41), out(0, kind="line", word="open"),
                     out(0, house=20), out(0), out(0, place=10)):
            self.assertEqual(yard.deed(deed)[0], "led")
        self.assertEqual(yard.ways(), [
            ("line", 0, 3, 40, 7, 80, 102, 504), ("note", 0, 3, 40, 7, 80, 104, 506),
            ("note", 0, 3, 40, 7, 81, 100, 502), ("note", 0, 3, 40, 10, 80, 105, 507),
            ("note", 0, 3, 41, 7, 9, 101, 503), ("note", 0, 20, 40, 7, 80, 103, 505),
            ("note", 1, 3, 9, 7, 80, 100, 500), ("note", 1, 3, 40, 7, 80, 101, 501)])

    def test_where_the_courts_talk_lives_alone(self):
        yard = yard_of(times=(4, 4, 4, 0))
        yard.deed(out(0))
        yard.deed(("wait", 4))
        self.assertEqual((yard.ways(), len(yard.talks()[0])), ([], 1))
        # Another court's talk by the yard's gate is no way of this one.
        yard.deed(out(1))
        self.assertEqual(yard.ways(), [("note", 1, 3, 40, 7, 80, 100, 501)])
        self.assertEqual(yard.deed(out(0)), ("led", 100, 502))
        self.assertEqual(yard.ways(), [
            ("note", 0, 3, 40, 7, 80, 100, 502), ("note", 1, 3, 40, 7, 80, 100, 501)])

    def test_where_the_yards_talk_lives_alone(self):
        yard = yard_of(times=(30, 30, 30, 0))
        yard.deed(out(0))
        yard.deed(("wait", 10))
        self.assertEqual((yard.ways(), len(yard.lends())), ([], 1))

    def test_a_talk_to_another_far_door_is_no_way(self):
        yard = Yard(form_of(low=500, high=500, lending="talk", most=1), [form_of(lending="door")])
        yard.deed(out(0))
        self.assertEqual(yard.deed(out(0, far=81)), ("stopped", 100, "most"))
        self.assertEqual(yard.deed(out(0, place=8)), ("stopped", 100, "most"))
        self.assertEqual(yard.deed(out(0, kind="line", word="open")), ("stopped", 101, "most"))
        self.assertEqual(len(yard.talks()[0]), 4)
        self.assertEqual(yard.ways(), [("note", 0, 3, 40, 7, 80, 100, 500)])

    def test_a_number_that_is_lent_anew(self):
        """The yard's talk of the number lives still; the way goes by it to the new door."""
        yard = Yard(form_of(low=500, high=500, times=(30, 30, 30, 0)), [form_of(high=100, times=(4, 4, 4, 0))])
        yard.deed(out(0))
        yard.deed(("wait", 4))
        self.assertEqual(yard.deed(out(0, door=41)), ("led", 100, 500))
        self.assertEqual(yard.ways(), [("note", 0, 3, 41, 7, 80, 100, 500)])
        self.assertEqual(yard.deed(come(500)), ("in", 0, 3, 41))


class NoForms(unittest.TestCase):
    def test_the_yards_form(self):
        source = random.Random(1)
        things = STRANGE + NO_TUPLES + [form_of(most=0), list(FRONT), [FRONT]]
        things += [with_part(FRONT, source.randrange(8), anything(source)) for _ in range(500)]
        for thing in things:
            for forms in ([COURT], [], None):
                if not is_form(thing):
                    self.assertRaises(NoForm, Yard, thing, forms)
                elif forms:
                    Yard(thing, forms)

    def test_the_forms_of_courts(self):
        source = random.Random(2)
        things = STRANGE + NO_TUPLES + [[thing] for thing in STRANGE + NO_TUPLES]
        things += [[], [COURT] * 21, (COURT,), (COURT, COURT), COURT, [[COURT]], [list(COURT)], [COURT, None],
                   [None, COURT], [COURT] * 19 + [form_of(most=0)], [COURT, form_of(high=99)], [COURT] * 400]
        things += [anything(source) for _ in range(500)]
        for thing in things:
            self.assertRaises(NoForm, Yard, FRONT, thing)
        for many in (1, 2, 19, 20):
            Yard(FRONT, [COURT] * many)

    def test_a_courts_form_of_anything(self):
        source = random.Random(3)
        for _ in range(1500):
            form = with_part(COURT, source.randrange(8), anything(source))
            if is_form(form):
                Yard(FRONT, [COURT, form])
            else:
                self.assertRaises(NoForm, Yard, FRONT, [COURT, form])


class NoDeeds(unittest.TestCase):
    DEEDS = [out(0), out(1, kind="line", word="open"), out(1, place=0), come(500), lost(500), ("wait", 5)]

    def setUp(self):
        self.yard = yard_of()
        for deed in (out(0), out(1), out(1, kind="line", word="open"), ("wait", 1)):
            self.yard.deed(deed)

    def refused(self, *deeds):
        before = yard_looks(self.yard)
        for deed in deeds:
            self.assertRaises(NoDeed, self.yard.deed, deed)
            self.assertEqual(yard_looks(self.yard), before, deed)

    def test_these_are_deeds(self):
        for deed in self.DEEDS:
            self.yard.deed(deed)

    def test_a_court_that_the_yard_has_not(self):
        self.refused(out(2), out(-1), out(-2), out(20), out(99), out(None), out("0"), out(True), out(False), out([0]),
                     out((0,)), out(10 ** 59))

    def test_parts_left_out_or_told_twice(self):
        for deed in self.DEEDS:
            for at in range(len(deed)):
                self.refused(without_part(deed, at), part_twice(deed, at), with_part(deed, at, True),
                             with_part(deed, at, [deed[at]]), with_part(deed, at, None))
            self.refused(deed + (0,), deed[:1], list(deed), (deed,), [deed])

    def test_bounds(self):
        self.refused(out(0, house=100), out(0, house=-1), out(0, door=0), out(0, door=10000), out(0, place=-1),
                     out(0, place=1000001), out(0, far=0), out(0, far=10000), out(0, word="open"),
                     out(0, kind="line", word="shut"), out(0, text="a" * 41), out(0, text="%"), out(0, text="\n"),
                     come(0), come(10000), come(500, place=0), lost(0), lost(500, place=0), lost(500, teller=0),
                     ("wait", -1), ("wait", 1000001))

    def test_deeds_of_a_gate_that_a_yard_has_not(self):
        self.refused(("rule", "note", 9, None, 3, 40), ("rule", 0, "note", 9, None, 3, 40), ("unrule", 0),
                     ("unrule", 0, 0), ("out", "note", 3, 40, 7, 80, "say", ""), ("wait", 0, 5),
                     ("come", 0, "note", 7, 80, 500, "say", ""), ("lost", 0, 9, "note", 500, 7, 80))

    def test_anything(self):
        self.refused(*STRANGE, *NO_TUPLES)
        source = random.Random(4)
        for _ in range(3000):
            self.refused_or_done(anything(source))
            deed = source.choice(self.DEEDS)
            self.refused_or_done(with_part(deed, source.randrange(len(deed)), anything(source)))

    def refused_or_done(self, deed):
        try:
            self.yard.deed(deed)
        except GateError as error:
            self.assertIsInstance(error, NoDeed)


class PlainYard:
    """Gates that are told, one by one, what point 24 tells."""

    def __init__(self, form, forms):
        self.gate, self.gates = Gate(form), [Gate(each) for each in forms]

    def deed(self, deed):
        return getattr(self, deed[0])(*deed[1:])

    def out(self, court, kind, house, door, place, far, word, text):
        first = self.gates[court].out(kind, house, door, place, far, word, text)
        if first[0] != "led":
            return first
        second = self.gate.out(kind, court, first[1], place, far, word, text)
        return ("led", first[1], second[1]) if second[0] == "led" else ("stopped", first[1], second[1])

    def come(self, kind, place, far, number, word, text):
        first = self.gate.come(kind, place, far, number, word, text)
        if first[0] == "kept":
            return first
        return self.further(first[1], self.gates[first[1]].come(kind, place, far, first[2], word, text))

    def lost(self, teller, kind, number, place, far):
        first = self.gate.lost(teller, kind, number, place, far)
        if first[0] == "kept":
            return first
        return self.further(first[1], self.gates[first[1]].lost(teller, kind, first[2], place, far))

    def further(self, court, second):
        return ("stopped", court, second[1]) if second[0] == "kept" else second[:1] + (court,) + second[1:]

    def wait(self, ticks):
        for gate in [self.gate] + self.gates:
            gate.wait(ticks)

    def moment(self):
        return self.gate.moment()

    def lends(self):
        return self.gate.lends()

    def talks(self):
        return [gate.talks() for gate in self.gates]

    def ways(self):
        rows = []
        for court, gate in enumerate(self.gates):
            for kind, number, house, door, place, far, _, _ in gate.talks():
                rows += [(kind, court, house, door, place, far, number, row[1]) for row in self.gate.talks()
                         if row[0] == kind and row[2:6] == (court, number, place, far)]
        return sorted(rows)


def some_yard_deed(source, plain):
    """A deed that often has to do with what one of the gates has just now."""
    court = source.randrange(len(plain.gates))
    gate = source.choice([plain.gates[court], plain.gate])
    deed = some_deed(source, gate.form, gate)
    while deed[0] in ("rule", "unrule"):
        deed = some_deed(source, gate.form, gate)
    if deed[0] == "out":
        own = plain.gates[court]
        deed = some_deed(source, own.form, own) if gate != own else deed
        return deed[:1] + (court,) + deed[1:] if deed[0] == "out" else ("wait", 0)
    return deed


EVERY_SORT = {
    ("out", "led"), ("out", "turned"), ("out", "kept"), ("out", "stopped"), ("come", "in"), ("come", "kept"),
    ("come", "stopped"), ("lost", "told"), ("lost", "kept"), ("lost", "stopped"), ("wait", None)}


class ManyRows(unittest.TestCase):
    def rows(self, seed, many, courts):
        """Yards of few numbers and short times, with the plain gates beside them, and deeds for them."""
        source = random.Random(seed)
        for _ in range(many):
            form, forms = some_form(source), [some_form(source) for _ in range(source.choice(courts))]
            yield source, Yard(form, forms), PlainYard(form, forms)

    def test_against_gates_told_one_by_one(self):
        seen = set()
        for source, yard, plain in self.rows(5, 250, [1, 2, 3]):
            for _ in range(70):
                deed = some_yard_deed(source, plain)
                answer = yard.deed(deed)
                self.assertEqual(answer, plain.deed(deed), deed)
                self.assertEqual(yard_looks(yard), yard_looks(plain), deed)
                seen.add((deed[0], answer and answer[0]))
        self.assertEqual(seen, EVERY_SORT)

    def test_twenty_courts(self):
        for source, yard, plain in self.rows(6, 10, [20]):
            for _ in range(100):
                deed = some_yard_deed(source, plain)
                self.assertEqual(yard.deed(deed), plain.deed(deed), deed)
            self.assertEqual(yard_looks(yard), yard_looks(plain))

    def test_ways_and_their_outer_ends_are_one_to_one(self):
        many = 0
        for source, yard, plain in self.rows(7, 150, [1, 2, 3]):
            for _ in range(50):
                deed = some_yard_deed(source, plain)
                ways = {(way[0], way[7]) + way[4:6]: way for way in yard.ways()}
                self.assertEqual(len(ways), len(yard.ways()))
                self.assertEqual(len({way[:6] for way in yard.ways()}), len(ways))
                answer = yard.deed(deed)
                plain.deed(deed)
                if deed[0] == "come" and answer[0] == "in":
                    way = ways.get((deed[1], deed[4]) + deed[2:4])
                    if way is not None:
                        self.assertEqual(answer[1:], way[1:4])
                        many += 1
        self.assertGreater(many, 100)

    def test_two_yards_by_turns(self):
        both = list(self.rows(8, 2, [2]))
        for _ in range(60):
            for source, yard, plain in both:
                deed = some_yard_deed(source, plain)
                self.assertEqual(yard.deed(deed), plain.deed(deed))
                self.assertEqual(yard_looks(yard), yard_looks(plain))


class NothingShared(unittest.TestCase):
    def test_the_list_of_forms(self):
        forms = [COURT, COURT]
        yard = Yard(FRONT, forms)
        yard.deed(out(1))
        self.assertEqual(forms, [COURT, COURT])
        forms.clear()
        self.assertEqual(yard.deed(come(500)), ("in", 1, 3, 40))
        self.assertEqual(len(yard.talks()), 2)

    def test_lists_told_are_the_askers_own(self):
        yard = yard_of()
        for deed in (out(0), out(1), out(1, kind="line", word="open")):
            yard.deed(deed)
        before = copy.deepcopy(yard_looks(yard))
        told = yard_looks(yard)
        told["talks"][0].append("x")
        told["talks"][1].clear()
        for name in ("lends", "talks", "ways"):
            told[name].append("x")
            told[name].reverse()
        self.assertEqual(yard_looks(yard), before)
        kept = yard_looks(yard)
        yard.deed(out(0, far=81))
        yard.deed(("wait", 100))
        self.assertEqual(kept, before)


if __name__ == "__main__":
    unittest.main()
