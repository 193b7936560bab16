"""Points 16 and 17: rules for strangers."""

import unittest

from lentgate.errors import NoRule
from lentgate.gate import Gate
from things import form_of, looks, without_book


class Fitting(unittest.TestCase):
    def test_a_rule_for_a_place(self):
        gate = Gate(form_of())
        self.assertEqual(gate.rule("note", 9, 7, 3, 40), 0)
        self.assertEqual(gate.come("note", 8, 80, 9, "say", ""), ("kept", "nobody"))
        self.assertEqual(gate.talks(), [])
        self.assertEqual(gate.come("note", 7, 80, 9, "say", ""), ("in", 3, 40))
        self.assertEqual(gate.talks(), [("note", 9, 3, 40, 7, 80, "note", 10)])

    def test_a_rule_for_any_place(self):
        gate = Gate(form_of())
        gate.rule("line", 9, None, 3, 40)
        for place in (1, 7, 1000000):
            self.assertEqual(gate.come("line", place, 80, 9, "open", ""), ("in", 3, 40))
        self.assertEqual(gate.out("line", 4, 40, 0, 9, "open", ""), ("turned", 100, ("in", 3, 40)))
        self.assertEqual([talk[4:7] for talk in gate.talks()], [
            (0, 100, "called"), (1, 80, "called"), (7, 80, "called"), (1000000, 80, "called"), (0, 9, "asked")])

    def test_a_rule_for_the_place_0(self):
        gate = Gate(form_of())
        gate.rule("note", 9, 0, 3, 40)
        self.assertEqual(gate.come("note", 7, 80, 9, "say", ""), ("kept", "nobody"))
        self.assertEqual(gate.out("note", 4, 40, 0, 9, "say", ""), ("turned", 100, ("in", 3, 40)))
        self.assertEqual(gate.talks()[0], ("note", 9, 3, 40, 0, 100, "note", 10))

    def test_a_rule_for_another_place_does_not_take_what_the_court_writes(self):
        gate = Gate(form_of())
        gate.rule("note", 9, 7, 3, 40)
        self.assertEqual(gate.out("note", 4, 40, 0, 9, "say", ""), ("turned", 100, ("kept", "nobody")))

    def test_kind_and_number_must_fit(self):
        gate = Gate(form_of())
        gate.rule("note", 9, None, 3, 40)
        gate.rule("line", 10, None, 3, 41)
        self.assertEqual(gate.come("line", 7, 80, 9, "open", ""), ("kept", "nobody"))
        self.assertEqual(gate.come("note", 7, 80, 10, "say", ""), ("kept", "nobody"))
        self.assertEqual(gate.come("note", 7, 80, 11, "say", ""), ("kept", "nobody"))
        self.assertEqual(gate.come("line", 7, 80, 10, "open", ""), ("in", 3, 41))

    def test_the_first_standing_one_decides_it_alone(self):
        gate = Gate(form_of())
        gate.rule("note", 9, 7, 1, 41)
        gate.rule("note", 9, None, 2, 42)
        gate.rule("note", 9, 8, 3, 43)
        self.assertEqual(gate.come("note", 7, 80, 9, "say", ""), ("in", 1, 41))
        self.assertEqual(gate.come("note", 8, 80, 9, "say", ""), ("in", 2, 42))
        gate.unrule(0)
        self.assertEqual(gate.come("note", 7, 81, 9, "say", ""), ("in", 2, 42))
        gate.unrule(1)
        self.assertEqual(gate.come("note", 8, 81, 9, "say", ""), ("in", 3, 43))
        self.assertEqual(gate.come("note", 7, 82, 9, "say", ""), ("kept", "nobody"))
        gate.unrule(2)
        self.assertEqual(gate.come("note", 8, 82, 9, "say", ""), ("kept", "nobody"))

    def test_a_later_rule_does_not_step_in_for_the_first(self):
        gate = Gate(form_of())
        gate.rule("note", 9, None, 1, 41)
        gate.rule("note", 9, None, 2, 42)
        gate.out("note", 1, 41, 7, 80, "say", "")
        self.assertEqual(gate.come("note", 7, 80, 9, "say", ""), ("kept", "clash"))


class KeptByRule(unittest.TestCase):
    def test_an_astray_word(self):
        gate = Gate(form_of())
        gate.rule("line", 9, None, 3, 40)
        told = without_book(gate)
        for word in ("say", "close", "break"):
            self.assertEqual(gate.come("line", 7, 80, 9, word, ""), ("kept", "astray"))
            self.assertEqual(without_book(gate), told)

    def test_a_clash(self):
        gate = Gate(form_of(renew=True))
        gate.rule("line", 9, None, 3, 40)
        gate.rule("line", 10, None, 3, 40)
        gate.out("line", 3, 40, 7, 80, "open", "")
        gate.come("line", 8, 80, 9, "open", "")
        gate.wait(2)
        told = without_book(gate)
        self.assertEqual(gate.come("line", 7, 80, 9, "open", ""), ("kept", "clash"))
        self.assertEqual(gate.come("line", 8, 80, 10, "open", ""), ("kept", "clash"))
        self.assertEqual(without_book(gate), told)
        self.assertEqual(gate.come("line", 7, 81, 9, "open", ""), ("in", 3, 40))
        gate.wait(3)
        self.assertEqual(gate.come("line", 7, 80, 9, "open", ""), ("in", 3, 40))

    def test_astray_comes_ahead_of_a_clash(self):
        gate = Gate(form_of())
        gate.rule("line", 9, None, 3, 40)
        gate.out("line", 3, 40, 7, 80, "open", "")
        for word in ("say", "close", "break"):
            self.assertEqual(gate.come("line", 7, 80, 9, word, ""), ("kept", "astray"))

    def test_where_no_rule_is(self):
        for gate in (Gate(form_of(low=100, high=103)), Gate(form_of(low=2, high=2))):
            for number in (1, 99, 104, 9999):
                self.assertEqual(gate.come("note", 7, 80, number, "say", ""), ("kept", "nobody"))
                self.assertEqual(gate.come("line", 7, 80, number, "say", ""), ("kept", "nobody"))


class ByTheRulesNumber(unittest.TestCase):
    def test_the_talk_goes_on_behind_the_rule(self):
        gate = Gate(form_of(renew=True))
        gate.rule("line", 9, None, 3, 40)
        gate.come("line", 7, 80, 9, "open", "")
        self.assertIsNone(gate.unrule(0))
        self.assertEqual(gate.out("line", 3, 40, 7, 80, "open", ""), ("led", 9))
        self.assertEqual(gate.come("line", 7, 80, 9, "say", ""), ("in", 3, 40))
        self.assertEqual(gate.lost(1, "line", 9, 7, 80), ("told", 3, 40))
        self.assertEqual(gate.come("line", 7, 80, 9, "open", ""), ("kept", "astray"))
        self.assertEqual(gate.come("line", 7, 81, 9, "open", ""), ("kept", "nobody"))
        gate.wait(20)
        self.assertEqual(gate.come("line", 7, 80, 9, "say", ""), ("kept", "nobody"))
        self.assertEqual(gate.out("line", 3, 40, 7, 80, "open", ""), ("led", 100))

    def test_such_a_number_is_not_lent(self):
        gate = Gate(form_of(high=100, most=1, lending="door"))
        gate.rule("note", 9, None, 3, 40)
        gate.come("note", 7, 80, 9, "say", "")
        self.assertEqual((gate.lends(), gate.free()), ([], 1))
        # Another talk of the same door begins by a number of the pool, not by the rule's.
        self.assertEqual(gate.out("note", 3, 40, 7, 81, "say", ""), ("led", 100))
        self.assertEqual(gate.out("note", 3, 40, 7, 80, "say", ""), ("led", 9))
        self.assertEqual(gate.lends(), [(100, "note", 3, 40, None, None)])
        gate.wait(10)
        self.assertEqual((gate.talks(), gate.rests()), ([], [(100, 17)]))

    def test_no_sieve_is_asked(self):
        for sieve in ("all", "place", "talk"):
            gate = Gate(form_of(sieve=sieve))
            gate.rule("note", 9, 7, 3, 40)
            gate.come("note", 7, 80, 9, "say", "")
            self.assertEqual(gate.come("note", 8, 80, 9, "say", ""), ("kept", "nobody"))
            self.assertEqual(gate.come("note", 7, 81, 9, "say", ""), ("in", 3, 40))
            self.assertEqual(len(gate.talks()), 2)

    def test_two_doors_by_one_rules_number(self):
        gate = Gate(form_of())
        gate.rule("note", 9, 7, 3, 40)
        gate.rule("note", 9, 8, 4, 41)
        gate.come("note", 7, 80, 9, "say", "")
        gate.come("note", 8, 80, 9, "say", "")
        gate.unrule(0)
        gate.unrule(1)
        self.assertEqual(gate.come("note", 7, 80, 9, "say", ""), ("in", 3, 40))
        self.assertEqual(gate.come("note", 8, 80, 9, "say", ""), ("in", 4, 41))


class ToldAndDropped(unittest.TestCase):
    def refused(self, gate, deed):
        told = looks(gate)
        with self.assertRaises(NoRule):
            gate.deed(deed)
        with self.assertRaises(NoRule):
            getattr(gate, deed[0])(*deed[1:])
        self.assertEqual(looks(gate), told)

    def test_a_rule_for_a_number_of_the_pool(self):
        gate = Gate(form_of())
        for number in (100, 101, 103):
            for place in (None, 0, 7):
                self.refused(gate, ("rule", "note", number, place, 3, 40))
        self.assertEqual(gate.rule("note", 99, None, 3, 40), 0)
        self.refused(gate, ("rule", "line", 100, None, 3, 40))
        self.assertEqual(gate.rule("line", 104, None, 3, 40), 1)

    def test_a_number_of_the_pool_that_is_lent_or_rests(self):
        gate = Gate(form_of())
        gate.out("note", 1, 50, 7, 80, "say", "")
        self.refused(gate, ("rule", "note", 100, None, 3, 40))
        gate.wait(10)
        self.refused(gate, ("rule", "note", 100, None, 3, 40))

    def test_to_drop_what_was_not_told_or_was_dropped(self):
        gate = Gate(form_of())
        for k in (0, 1, 1000000):
            self.refused(gate, ("unrule", k))
        gate.rule("note", 9, None, 3, 40)
        gate.rule("note", 9, 7, 3, 40)
        self.refused(gate, ("unrule", 2))
        self.assertIsNone(gate.unrule(0))
        self.refused(gate, ("unrule", 0))
        self.assertIsNone(gate.deed(("unrule", 1)))
        self.refused(gate, ("unrule", 1))

    def test_a_dropped_ones_number_is_not_given_anew(self):
        gate = Gate(form_of())
        self.assertEqual([gate.rule("note", 9, None, 3, 40) for _ in range(3)], [0, 1, 2])
        gate.unrule(2)
        self.assertEqual(gate.rule("note", 9, None, 3, 40), 3)
        gate.unrule(0)
        gate.unrule(1)
        gate.unrule(3)
        self.assertEqual(gate.rules(), [])
        self.assertEqual(gate.rule("line", 10, 0, 4, 41), 4)
        self.assertEqual(gate.rules(), [(4, "line", 10, 0, 4, 41)])

    def test_the_rules_told(self):
        gate = Gate(form_of())
        gate.rule("note", 50, None, 3, 40)
        gate.rule("line", 9, 7, 2, 41)
        gate.rule("line", 9, 0, 0, 1)
        gate.rule("note", 9, 7, 1, 9999)
        gate.unrule(1)
        self.assertEqual(gate.rules(), [
            (0, "note", 50, None, 3, 40), (2, "line", 9, 0, 0, 1), (3, "note", 9, 7, 1, 9999)])


if __name__ == "__main__":
    unittest.main()
