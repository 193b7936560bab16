"""The looks of a gate, its book, its refusals, and that nothing told or handed in is shared (points 2, 17, 18)."""

import random
import unittest

from lentgate.ends import is_deed
from lentgate.errors import GateError, NoDeed, NoForm, NoRule
from lentgate.forms import is_form
from lentgate.gate import Gate
from things import LOOKS, NO_TUPLES, STRANGE, anything, form_of, looks, part_twice, with_part, without_part

DEEDS = [
    ("out", "note", 3, 40, 7, 80, "say", "how are you"),
    ("out", "line", 3, 40, 0, 9, "open", ""),
    ("come", "note", 7, 80, 100, "say", "well"),
    ("come", "line", 7, 80, 9, "open", ""),
    ("lost", 5, "note", 100, 7, 80),
    ("wait", 3),
    ("rule", "line", 9, None, 4, 41),
    ("unrule", 0),
]


def busy_gate(**parts):
    """A gate with something for each look to tell."""
    gate = Gate(form_of(**{"low": 100, "high": 109, "most": 9, **parts}))
    gate.rule("line", 9, None, 4, 41)
    gate.rule("note", 50, 7, 4, 41)
    gate.out("line", 1, 20, 7, 80, "open", "")
    gate.out("line", 1, 20, 7, 80, "break", "")
    gate.out("line", 1, 21, 7, 80, "open", "")
    gate.out("line", 1, 21, 7, 80, "break", "")
    gate.out("note", 3, 40, 7, 80, "say", "a")
    gate.out("note", 3, 40, 7, 9, "say", "b")
    gate.out("note", 2, 40, 7, 80, "say", "c")
    gate.out("line", 2, 40, 0, 9, "open", "d")
    gate.wait(1)
    return gate


class Looks(unittest.TestCase):
    def test_a_new_gate(self):
        gate = Gate(form_of())
        self.assertEqual(looks(gate), {
            "moment": 0, "free": 4, "lends": [], "talks": [], "rests": [], "rules": [], "book": []})

    def test_lends_by_each_lending(self):
        for lending, place, far in (("door", None, None), ("place", 7, None), ("talk", 7, 80)):
            gate = Gate(form_of(lending=lending, pick="keep"))
            for door in (103, 101, 102):
                gate.out("note", 3, door, 7, 80, "say", "")
            self.assertEqual(gate.lends(), [(number, "note", 3, number, place, far) for number in (101, 102, 103)])

    def test_a_busy_gate(self):
        gate = busy_gate()
        self.assertEqual(gate.moment(), 1)
        self.assertEqual(gate.free(), 4)
        self.assertEqual(gate.lends(), [
            (102, "note", 3, 40, 7, 80), (103, "note", 3, 40, 7, 9), (104, "note", 2, 40, 7, 80),
            (105, "line", 2, 40, 0, 9)])
        self.assertEqual(gate.talks(), [
            ("line", 9, 4, 41, 0, 105, "called", 5), ("line", 105, 2, 40, 0, 9, "asked", 5),
            ("note", 102, 3, 40, 7, 80, "note", 10), ("note", 103, 3, 40, 7, 9, "note", 10),
            ("note", 104, 2, 40, 7, 80, "note", 10)])
        self.assertEqual(gate.rests(), [(100, 7), (101, 7)])
        self.assertEqual(gate.rules(), [(0, "line", 9, None, 4, 41), (1, "note", 50, 7, 4, 41)])

    def test_talks_are_sorted_with_each_other_where_ends_are_alike_at_first(self):
        gate = Gate(form_of(low=9, high=12, lending="door", most=9))
        gate.rule("note", 100, 1000000, 10, 5)
        gate.rule("note", 100, 2, 9, 6)
        gate.rule("note", 100, None, 9, 5)
        ends = [(10, 7), (2, 80), (2, 9), (1000000, 1), (10, 10), (3, 1)]
        for place, far in ends:
            gate.come("note", place, far, 100, "say", "")
        for place, far in ends:
            gate.out("note", 20, 50, place, far, "say", "")
        gate.out("line", 20, 50, 10, 7, "open", "")
        self.assertEqual([talk[:6] for talk in gate.talks()], [
            ("line", 10, 20, 50, 10, 7),
            ("note", 9, 20, 50, 2, 9), ("note", 9, 20, 50, 2, 80), ("note", 9, 20, 50, 3, 1),
            ("note", 9, 20, 50, 10, 7), ("note", 9, 20, 50, 10, 10), ("note", 9, 20, 50, 1000000, 1),
            ("note", 100, 9, 5, 3, 1), ("note", 100, 9, 5, 10, 7), ("note", 100, 9, 5, 10, 10),
            ("note", 100, 9, 6, 2, 9), ("note", 100, 9, 6, 2, 80), ("note", 100, 10, 5, 1000000, 1)])

    def test_rests_are_rising_by_number(self):
        gate = Gate(form_of())
        for door in (50, 51, 52, 53):
            gate.out("line", 1, door, 7, 80, "open", "")
        for door in (52, 50, 53):
            gate.out("line", 1, door, 7, 80, "break", "")
            gate.wait(1)
        self.assertEqual(gate.rests(), [(100, 8), (102, 7), (103, 9)])

    def test_the_kinds_of_all_parts(self):
        for lending in ("door", "place", "talk"):
            gate = busy_gate(lending=lending)
            none = type(None)
            self.assertIs(type(gate.moment()), int)
            self.assertIs(type(gate.free()), int)
            for name, parts in (
                    ("lends", [{int}, {str}, {int}, {int}, {int, none}, {int, none}]),
                    ("talks", [{str}, {int}, {int}, {int}, {int}, {int}, {str}, {int}]),
                    ("rests", [{int}, {int}]),
                    ("rules", [{int}, {str}, {int}, {int, none}, {int}, {int}]),
                    ("book", [{tuple}, {tuple, int, none}])):
                told = getattr(gate, name)()
                self.assertIs(type(told), list)
                self.assertTrue(told)
                for row in told:
                    self.assertIs(type(row), tuple)
                    self.assertEqual(len(row), len(parts))
                    for part, kinds in zip(row, parts):
                        self.assertIn(type(part), kinds)

    def test_the_kinds_of_answers(self):
        gate = Gate(form_of(sieve="all"))
        for deed, answer in (
                (("rule", "note", 9, None, 3, 40), 0), (("out", "note", 3, 40, 7, 80, "say", ""), ("led", 100)),
                (("come", "note", 7, 80, 100, "say", ""), ("in", 3, 40)),
                (("lost", 5, "note", 100, 7, 80), ("told", 3, 40)),
                (("out", "note", 3, 40, 0, 9, "say", ""), ("turned", 101, ("in", 3, 40))),
                (("come", "note", 7, 80, 99, "say", ""), ("kept", "nobody")),
                (("wait", 0), None), (("unrule", 0), None)):
            told = gate.deed(deed)
            self.assertEqual(told, answer)
            self.assertIs(type(told), type(answer))


class Book(unittest.TestCase):
    def test_all_deeds_in_order_with_their_answers(self):
        gate = Gate(form_of(sieve="all"))
        book = []
        for deed in DEEDS[6:7] + DEEDS:
            book.append((deed, gate.deed(deed)))
            self.assertEqual(gate.book(), book)
        self.assertEqual([answer for _, answer in book], [
            0, ("led", 100), ("turned", 101, ("in", 4, 41)), ("in", 3, 40), ("in", 4, 41), ("told", 3, 40), None, 1,
            None])

    def test_the_methods_by_parts_do_the_same(self):
        one, other = Gate(form_of(sieve="all")), Gate(form_of(sieve="all"))
        for deed in DEEDS[6:7] + DEEDS:
            self.assertEqual(one.deed(deed), getattr(other, deed[0])(*deed[1:]))
            self.assertEqual(looks(one), looks(other))

    def test_kept_ones_are_in_it_and_refused_ones_are_not(self):
        gate = Gate(form_of())
        gate.out("line", 3, 40, 7, 80, "say", "")
        for wrong in (("rule", "note", 100, None, 3, 40), ("unrule", 0), ("wait", -1), None):
            with self.assertRaises(GateError):
                gate.deed(wrong)
        gate.lost(5, "note", 100, 7, 80)
        self.assertEqual(gate.book(), [
            (("out", "line", 3, 40, 7, 80, "say", ""), ("kept", "astray")),
            (("lost", 5, "note", 100, 7, 80), ("kept", "nobody"))])

    def test_2000_deeds(self):
        gate = Gate(form_of(low=1, high=200, most=200, lending="door", times=(1000, 5, 20, 7)))
        for k in range(2000):
            gate.out("note", k % 100, 1 + k % 7, k % 9, 1 + k, "say", str(k))
        self.assertEqual(len(gate.book()), 2000)
        self.assertEqual(gate.book()[1999][0], ("out", "note", 99, 5, 1, 2000, "say", "1999"))
        gate.wait(2000)
        self.assertEqual((gate.talks(), gate.free()), ([], 200))


class Refused(unittest.TestCase):
    def test_what_is_no_form(self):
        good = form_of()
        wrong = NO_TUPLES + STRANGE + [list(good), good[:7], good + (1,)]
        wrong += [with_part(good, at, part) for at in range(8) for part in STRANGE if part is not True]
        wrong += [form_of(low=0), form_of(high=10000), form_of(high=99), form_of(high=300), form_of(lending="house")]
        wrong += [form_of(times=[10, 5, 20, 7]), form_of(times=(0, 5, 20, 7)), form_of(times=(10, 5, 20, -1))]
        source = random.Random(1)
        wrong += [anything(source) for _ in range(300)]
        # Of the made ones a few may be right after all, such as False in the place of renew.
        for thing in [thing for thing in wrong if not is_form(thing)]:
            with self.assertRaises(NoForm):
                Gate(thing)

    def test_what_is_no_deed_by_deed(self):
        gate = busy_gate()
        told = looks(gate)
        wrong = list(NO_TUPLES) + STRANGE
        for deed in DEEDS:
            wrong += [list(deed), deed[:-1], deed + (1,)]
            wrong += [with_part(deed, at, part) for at in range(len(deed)) for part in STRANGE]
            wrong += [without_part(deed, at) for at in range(len(deed))]
            wrong += [part_twice(deed, at) for at in range(len(deed))]
        source = random.Random(2)
        wrong += [anything(source) for _ in range(300)]
        wrong = [thing for thing in wrong if not is_deed(thing)]
        self.assertGreater(len(wrong), 1000)
        for thing in wrong:
            with self.assertRaises(NoDeed):
                gate.deed(thing)
        self.assertEqual(looks(gate), told)

    def test_what_is_no_deed_by_the_method_of_its_name(self):
        gate = busy_gate()
        told = looks(gate)
        for deed in DEEDS:
            for at in range(1, len(deed)):
                for part in STRANGE:
                    wrong = with_part(deed, at, part)
                    if is_deed(wrong):
                        continue
                    with self.assertRaises(NoDeed):
                        getattr(gate, deed[0])(*wrong[1:])
        self.assertEqual(looks(gate), told)

    def test_no_deed_comes_ahead_of_no_rule(self):
        gate = Gate(form_of())
        for deed in (("rule", "note", 100, None, 100, 40), ("rule", "word", 100, None, 3, 40), ("unrule", 1000001)):
            with self.assertRaises(NoDeed):
                gate.deed(deed)
        for deed in (("rule", "note", 100, None, 99, 40), ("unrule", 1000000)):
            with self.assertRaises(NoRule):
                gate.deed(deed)

    def test_what_is_refused_leaves_no_trace_behind(self):
        one, other = Gate(form_of(sieve="all")), Gate(form_of(sieve="all"))
        for deed in DEEDS[6:7] + DEEDS:
            for wrong in (("unrule", 77), ("rule", "note", 103, None, 1, 1), ("wait", 1000001), deed + (0,)):
                with self.assertRaises(GateError):
                    one.deed(wrong)
            self.assertEqual(one.deed(deed), other.deed(deed))
            self.assertEqual(looks(one), looks(other))


class Shared(unittest.TestCase):
    def test_each_told_list_is_changed_by_the_asker_and_told_again_as_it_was(self):
        gate = busy_gate()
        told = looks(gate)
        for name in LOOKS[2:]:
            for change in (
                    lambda rows: rows.clear(), lambda rows: rows.append(None), lambda rows: rows.reverse(),
                    lambda rows: rows.__setitem__(0, ("x",)), lambda rows: rows.extend(rows)):
                change(getattr(gate, name)())
                self.assertEqual(looks(gate), told, name)

    def test_a_list_told_earlier_stays_as_it_was(self):
        gate = busy_gate()
        held, copies = looks(gate), looks(gate)
        gate.out("note", 9, 9, 9, 9, "say", "")
        gate.out("line", 9, 9, 9, 9, "open", "")
        gate.rule("note", 60, None, 4, 41)
        gate.unrule(0)
        gate.come("note", 7, 80, 50, "say", "")
        gate.wait(4)
        self.assertEqual(held, copies)
        for name in LOOKS:
            self.assertNotEqual(getattr(gate, name)(), held[name], name)

    def test_a_look_changes_nothing(self):
        looked, other = Gate(form_of(sieve="all")), Gate(form_of(sieve="all"))
        for deed in DEEDS[6:7] + DEEDS + [("wait", 30)] + DEEDS[:7]:
            looks(looked)
            looks(looked)
            self.assertEqual(looked.deed(deed), other.deed(deed))
        self.assertEqual(looks(looked), looks(other))

    def test_two_gates_by_turns(self):
        one, other, alone = Gate(form_of(sieve="all")), Gate(form_of(sieve="all")), Gate(form_of(sieve="all"))
        for deed in DEEDS[6:7] + DEEDS:
            alone.deed(deed)
        for at, deed in enumerate(DEEDS[6:7] + DEEDS):
            one.deed(deed)
            told = looks(one)
            other.deed(("out", "note", at, 1, 7, 80, "say", ""))
            other.deed(("rule", "note", 9, None, at, 40))
            other.deed(("wait", 1))
            self.assertEqual(looks(one), told)
        self.assertEqual(looks(one), looks(alone))
        self.assertEqual((other.moment(), len(other.rules()), len(other.book())), (9, 9, 27))


if __name__ == "__main__":
    unittest.main()
