"""Meetings of two doors behind two gates (points 26 and 27)."""

import copy
import itertools
import random
import unittest

from lentgate.errors import NoForm, NoPlan
from lentgate.forms import is_form
from lentgate.meetings import meeting, meets
from test_model import Model, some_form
from things import NO_TUPLES, SIXTY, STRANGE, anything, form_of, with_part

LENDINGS = ("door", "place", "talk")
SIEVES = ("all", "place", "talk")
DOORS = (40, 41)


def other_form(**parts):
    return form_of(**{"low": 500, "high": 503, **parts})


class Rows(unittest.TestCase):
    """By lending "talk" and sieve "talk" where nothing else is said; the helper's talk has the first number."""

    def check(self, rows, steps, one, other, doors=DOORS):
        self.assertEqual(meeting(one, other, doors, steps), rows)
        got = {row[0] for row in rows if row[2] is not None and row[2][0] == "in"}
        self.assertIs(meets(one, other, doors, steps), got == {"one", "other"})

    def test_no_steps_and_no_writing(self):
        self.check([], [], form_of(), other_form())
        self.check([], [0, 5, 1000000], form_of(), other_form())

    def test_one_alone_and_other_alone(self):
        one, other = form_of(sieve="all"), other_form(sieve="all")
        self.check([("one", ("led", 101), ("in", 0, 41))], ["one"], one, other)
        self.check([("other", ("led", 501), ("in", 0, 40))], ["other"], one, other)
        self.check([("one", ("led", 101), ("in", 0, 41))] * 3, ["one"] * 3, one, other)
        self.check([("one", ("led", 101), ("in", 0, 41)), ("other", ("led", 501), ("in", 0, 40))],
                   ["one", "other"], one, other)

    def test_by_talk_they_never_meet(self):
        self.check([
            ("one", ("led", 101), ("kept", "sieve")), ("other", ("led", 501), ("kept", "sieve")),
            ("one", ("led", 101), ("kept", "sieve")), ("other", ("led", 501), ("kept", "sieve"))],
            ["one", "other", "one", "other"], form_of(), other_form())

    def test_by_doors_the_first_note_opens_the_way(self):
        one, other = form_of(lending="door"), other_form(lending="door")
        self.check([
            ("one", ("led", 100), ("kept", "sieve")), ("other", ("led", 500), ("in", 0, 40)),
            ("one", ("led", 100), ("in", 0, 41))], ["one", "other", "one"], one, other)
        self.check([
            ("other", ("led", 500), ("kept", "sieve")), ("one", ("led", 100), ("in", 0, 41)),
            ("other", ("led", 500), ("in", 0, 40))], ["other", "one", "other"], one, other)

    def test_by_the_sieve_of_places_it_is_enough_that_the_reader_lends_by_door(self):
        one, other = form_of(lending="talk", sieve="all"), other_form(lending="door", sieve="place")
        self.check([
            ("one", ("led", 101), ("kept", "sieve")), ("other", ("led", 500), ("in", 0, 40)),
            ("one", ("led", 101), ("in", 0, 41))], ["one", "other", "one"], one, other)
        # By the sieve of talks the writer's number would have to be the one that the helper knows.
        self.check([
            ("other", ("led", 500), ("in", 0, 40)), ("one", ("led", 101), ("kept", "sieve"))],
            ["other", "one"], one, with_part(other, 3, "talk"))

    def test_doors_alike_and_otherwise(self):
        one, other = form_of(lending="door", sieve="place"), other_form(lending="door", sieve="place")
        for doors in ((40, 40), (40, 41), (1, 9999), (9999, 1), (100, 500)):
            self.check([
                ("one", ("led", 100), ("kept", "sieve")), ("other", ("led", 500), ("in", 0, doors[0])),
                ("one", ("led", 100), ("in", 0, doors[1]))], ["one", "other", "one"], one, other, doors)

    def test_the_pick_keep(self):
        one, other = form_of(pick="keep", sieve="all"), other_form(pick="keep", sieve="all")
        # The door's own number is known to the helper; the letter to the other gate goes by the next one.
        self.check([("one", ("led", 103), ("in", 0, 501)), ("other", ("led", 502), ("in", 0, 102))],
                   ["one", "other"], one, other, (102, 501))
        self.check([("one", ("led", 101), ("in", 0, 41))], ["one"], one, other)

    def test_the_same_pool_at_both(self):
        form = form_of(lending="door", sieve="talk")
        self.check([
            ("one", ("led", 100), ("kept", "sieve")), ("other", ("led", 100), ("in", 0, 40)),
            ("one", ("led", 100), ("in", 0, 41))], ["one", "other", "one"], form, form)

    def test_a_note_that_is_not_led_out(self):
        full, most = form_of(high=100), form_of(most=1)
        self.check([("one", ("kept", "full"), None), ("other", ("led", 501), ("kept", "sieve"))],
                   ["one", "other"], full, other_form())
        self.check([("one", ("kept", "most"), None), ("other", ("led", 501), ("kept", "sieve"))],
                   ["one", "other"], most, other_form())
        self.check([("one", ("kept", "full"), None), ("other", ("kept", "most"), None)] * 2,
                   ["one", "other"] * 2, full, other_form(most=1))
        # One number is enough where it is lent to the door.
        self.check([("one", ("led", 100), ("in", 0, 41)), ("other", ("led", 500), ("in", 0, 40))], ["one", "other"],
                   form_of(high=100, most=1, lending="door", sieve="place"),
                   other_form(high=500, most=1, lending="door", sieve="all"))

    def test_ticks_by_which_the_helpers_talk_is_over(self):
        one, other = form_of(sieve="all"), other_form(sieve="all")
        self.check([("one", ("led", 101), ("in", 0, 41))], [9, "one"], one, other)
        self.check([("one", ("led", 101), ("kept", "nobody"))], [10, "one"], one, other)
        self.check([("one", ("led", 101), ("kept", "nobody"))], [5, 0, 5, "one"], one, other)
        # Behind 16 ticks the number that the helper knows rests still; at 17 it is free, and picked anew.
        one, other = form_of(high=101, sieve="all"), other_form(high=500, sieve="all")
        self.check([("other", ("kept", "full"), None), ("one", ("led", 101), ("kept", "nobody"))],
                   [16, "other", "one"], one, other)
        self.check([("other", ("led", 500), ("kept", "nobody")), ("one", ("led", 101), ("in", 0, 41))],
                   [17, "other", "one"], one, other)

    def test_ticks_go_by_at_both_gates(self):
        one, other = form_of(lending="door", times=(3, 5, 20, 0)), other_form(lending="door", times=(30, 5, 20, 0))
        # One's talks are over; it is known by a number that is nobody's, and then picks another one.
        self.check([("other", ("led", 500), ("kept", "nobody")), ("one", ("led", 101), ("kept", "sieve"))],
                   [3, "other", "one"], one, other)
        self.check([("other", ("led", 500), ("kept", "sieve")), ("one", ("led", 100), ("in", 0, 41))],
                   [2, "other", "one"], one, other)

    def test_renewed_by_what_is_led_in(self):
        one = form_of(lending="door", sieve="place", times=(10, 5, 20, 7))
        steps = ["other", "one", 9, "other", 9, "one", "other"]
        for renew, last in ((True, ("in", 0, 40)), (False, ("in", 0, 40))):
            rows = meeting(with_part(one, 6, renew), other_form(lending="door", sieve="all"), DOORS, steps)
            self.assertEqual(rows[2], ("other", ("led", 500), ("in", 0, 40)))
            self.assertEqual(rows[3][1], ("led", 100 if renew else 101))
            self.assertEqual(rows[4][2], last if renew else ("kept", "nobody"))

    def test_a_hundred_steps(self):
        one, other = form_of(sieve="all"), other_form(sieve="all")
        self.assertEqual(len(meeting(one, other, DOORS, ["one"] * 100)), 100)
        self.assertEqual(len(meeting(one, other, DOORS, ["one", 1] * 50)), 50)
        self.assertIs(meets(one, other, DOORS, ["one", "other"] * 50), True)
        self.assertEqual(meeting(one, other, DOORS, [1000000] * 100), [])


def plainly_met(one, other, doors, steps):
    """Point 26 by two plain models."""
    gates, places = {"one": Model(one), "other": Model(other)}, {"one": 1, "other": 2}
    door = dict(zip(gates, doors))
    known = {who: gate.deed(("out", "note", 0, door[who], 3, 1, "say", ""))[1] for who, gate in gates.items()}
    rows = []
    for step in steps:
        if step not in gates:
            for gate in gates.values():
                gate.deed(("wait", step))
            continue
        reader = {"one": "other", "other": "one"}[step]
        answer = gates[step].deed(("out", "note", 0, door[step], places[reader], known[reader], "say", ""))
        arrived = None
        if answer[0] == "led":
            arrived = gates[reader].deed(("come", "note", places[step], answer[1], known[reader], "say", ""))
        rows.append((step, answer, arrived))
    return rows


def is_led_in(writer, reader, answered):
    """Point 27; answered: the reader's door wrote to the writer in an earlier step."""
    if reader[3] == "all":
        return True
    if reader[2] != "door" or not answered:
        return False
    return reader[3] == "place" or writer[2] == "door"


class ManyMeetings(unittest.TestCase):
    def test_against_the_model(self):
        source, met = random.Random(1), 0
        for _ in range(1500):
            one, other = some_form(source), some_form(source)
            doors = (source.choice([1, 5, 100, 101, 9996, 40]), source.choice([1, 5, 100, 101, 9996, 40]))
            steps = [source.choice(["one", "other", "one", "other", 0, 1, 2, 5]) for _ in range(source.randrange(15))]
            rows = meeting(one, other, doors, steps)
            self.assertEqual(rows, plainly_met(one, other, doors, steps), (one, other, doors, steps))
            got = {(step, arrived[0]) for step, _, arrived in rows if arrived}
            expected = {("one", "in"), ("other", "in")} <= got
            self.assertIs(meets(one, other, doors, steps), expected)
            met += expected
        self.assertGreater(met, 50)

    def test_point_27_by_every_pair_of_forms(self):
        ways = list(itertools.product(LENDINGS, SIEVES, ("next", "keep")))
        orders = [["one", "other", "one", "other"], ["other", "one", "one", "other"], ["one", "one"], ["other", "other"]]
        for first, second in itertools.product(ways, ways):
            forms = {"one": (100, 101) + first + (2, True, (1, 1, 1, 0)),
                     "other": (500, 509) + second + (9, False, (5, 5, 5, 5))}
            for steps, doors in zip(orders, ((40, 41), (100, 500), (501, 101), (7, 7))):
                wrote, got = set(), set()
                for step, answer, arrived in meeting(forms["one"], forms["other"], doors, steps):
                    reader = "other" if step == "one" else "one"
                    self.assertEqual(answer[0], "led")
                    led_in = is_led_in(forms[step], forms[reader], reader in wrote)
                    self.assertEqual(arrived, ("in", 0, doors[step == "one"]) if led_in else ("kept", "sieve"))
                    wrote.add(step)
                    if led_in:
                        got.add(step)
                self.assertIs(meets(forms["one"], forms["other"], doors, steps), len(got) == 2)

    def test_the_other_way_about(self):
        source = random.Random(2)
        turned = {"one": "other", "other": "one"}
        for _ in range(200):
            one, other = some_form(source), some_form(source)
            steps = [source.choice(["one", "other", 0, 1, 4]) for _ in range(10)]
            rows = meeting(one, other, (3, 7), steps)
            about = meeting(other, one, (7, 3), [turned.get(step, step) for step in steps])
            self.assertEqual([(turned[row[0]],) + row[1:] for row in rows], about)


class Refusals(unittest.TestCase):
    def test_no_form(self):
        source = random.Random(3)
        things = STRANGE + NO_TUPLES + [anything(source) for _ in range(200)]
        things += [with_part(form_of(), source.randrange(8), anything(source)) for _ in range(600)]
        for ask in (meeting, meets):
            for thing in things:
                for one, other in ((thing, form_of()), (form_of(), thing), (thing, thing)):
                    if is_form(thing):
                        ask(one, other, DOORS, ["one"])
                    else:
                        self.assertRaises(NoForm, ask, one, other, DOORS, [])
                        # Ahead of wrong doors and steps.
                        self.assertRaises(NoForm, ask, one, other, None, [])
                        self.assertRaises(NoForm, ask, one, other, DOORS, None)

    def refused(self, doors, steps):
        for ask in (meeting, meets):
            with self.assertRaises(NoPlan, msg=(doors, steps)):
                ask(form_of(), other_form(), doors, steps)

    def test_doors(self):
        wrong = STRANGE + NO_TUPLES + [
            [40, 41], (40,), (40, 41, 42), (0, 41), (40, 0), (10000, 41), (40, 10000), (True, 41), (40, True),
            (None, 41), (40, None), ("40", 41), (40, "41"), ([40], 41), (40, (41,)), ((40, 41),), 40, (-1, 41),
            (SIXTY, 41), (40, -SIXTY), ("one", "other"), (40, False)]
        for doors in wrong:
            self.refused(doors, ["one"])
        for doors in ((1, 1), (9999, 9999), (1, 9999)):
            self.assertEqual(meeting(form_of(), other_form(), doors, []), [])

    def test_steps(self):
        wrong = [thing for thing in STRANGE + NO_TUPLES if thing not in ([], [5])]
        wrong += [("one",), ("one", "other"), (), (5,), "one", 5, {}]
        wrong += [["one", thing] for thing in STRANGE + NO_TUPLES if thing not in (0, 1, 5) or isinstance(thing, bool)]
        wrong += [[-1], [1000001], [True], [False], [None], ["One"], ["two"], ["one "], [""], [["one"]], [("one",)],
                  [SIXTY], [-SIXTY], ["one"] * 101, [0] * 101, ["one", 5] * 200, ["out"], [("wait", 5)], ["5"]]
        for steps in wrong:
            self.refused(DOORS, steps)
        for steps in ([0], [1000000], ["one"] * 100):
            meeting(form_of(), other_form(), DOORS, steps)

    def is_number(self, thing, least, greatest):
        return isinstance(thing, int) and not isinstance(thing, bool) and least <= thing <= greatest

    def test_steps_and_doors_of_anything(self):
        source, taken = random.Random(4), 0
        for _ in range(2000):
            thing = anything(source)
            for doors, steps in ((thing, []), ((thing, 41), []), ((40, thing), []), (DOORS, thing), (DOORS, [thing])):
                good = isinstance(doors, tuple) and len(doors) == 2 and isinstance(steps, list)
                good = good and all([self.is_number(door, 1, 9999) for door in doors])
                good = good and all([step in ("one", "other") or self.is_number(step, 0, 1000000) for step in steps])
                taken += good
                if good:
                    meeting(form_of(), other_form(), doors, steps)
                else:
                    self.refused(doors, steps)
        self.assertGreater(taken, 500)

    def test_nothing_is_shared(self):
        steps, one, other = ["one", 5, "other", "one"], form_of(sieve="all"), other_form(sieve="all")
        before = copy.deepcopy(steps)
        told = meeting(one, other, DOORS, steps)
        meets(one, other, DOORS, steps)
        self.assertEqual(steps, before)
        first = list(told)
        told.clear()
        self.assertEqual(meeting(one, other, DOORS, steps), first)
        self.assertEqual(meeting(one, other, DOORS, steps), first)


if __name__ == "__main__":
    unittest.main()
