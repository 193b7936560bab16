"""Points 13 to 15: what comes in, by talks and by the sieve, and what is told as lost."""

import unittest

from lentgate.gate import Gate
from things import form_of, without_book


class InATalk(unittest.TestCase):
    def test_a_note_in_its_talk(self):
        for sieve in ("all", "place", "talk"):
            gate = Gate(form_of(sieve=sieve))
            gate.out("note", 3, 40, 7, 80, "say", "")
            self.assertEqual(gate.come("note", 7, 80, 100, "say", "well"), ("in", 3, 40))
            gate.wait(10)
            self.assertEqual(gate.come("note", 7, 80, 100, "say", "well"), ("kept", "nobody"))

    def test_a_line_in_its_talk(self):
        gate = Gate(form_of())
        gate.out("line", 3, 40, 7, 80, "open", "")
        for word, state in (("open", "up"), ("say", "up"), ("close", "far")):
            self.assertEqual(gate.come("line", 7, 80, 100, word, ""), ("in", 3, 40))
            self.assertEqual(gate.talks()[0][6], state)
        self.assertEqual(gate.come("line", 7, 80, 100, "break", ""), ("in", 3, 40))
        self.assertEqual(gate.come("line", 7, 80, 100, "break", ""), ("kept", "nobody"))

    def test_the_last_word_of_the_far_side(self):
        gate = Gate(form_of())
        gate.out("line", 3, 40, 7, 80, "open", "")
        gate.come("line", 7, 80, 100, "open", "")
        gate.out("line", 3, 40, 7, 80, "close", "")
        self.assertEqual(gate.come("line", 7, 80, 100, "say", ""), ("in", 3, 40))
        self.assertEqual(gate.come("line", 7, 80, 100, "close", ""), ("in", 3, 40))
        self.assertEqual((gate.talks(), gate.rests()), ([], [(100, 7)]))

    def test_astray_in_a_talk_changes_nothing(self):
        for sieve in ("all", "place", "talk"):
            gate = Gate(form_of(sieve=sieve, renew=True))
            gate.out("line", 3, 40, 7, 80, "open", "")
            gate.wait(1)
            for words in (("say", "close"), ("open",), ("open", "say", "close")):
                told = without_book(gate)
                for word in words:
                    self.assertEqual(gate.come("line", 7, 80, 100, word, ""), ("kept", "astray"))
                    self.assertEqual(without_book(gate), told)
                gate.come("line", 7, 80, 100, "open" if len(words) == 2 else "close", "")

    def test_each_talk_of_a_number_is_led_to_by_its_outer_end(self):
        gate = Gate(form_of(lending="door", sieve="talk"))
        for place, far in ((7, 80), (7, 81), (8, 80)):
            gate.out("line", 3, 40, place, far, "open", "")
        self.assertEqual(gate.come("line", 7, 81, 100, "open", ""), ("in", 3, 40))
        self.assertEqual([talk[4:7] for talk in gate.talks()], [(7, 80, "asked"), (7, 81, "up"), (8, 80, "asked")])


class BySieve(unittest.TestCase):
    def test_by_a_number_that_is_not_lent(self):
        for sieve in ("all", "place", "talk"):
            gate = Gate(form_of(sieve=sieve))
            for number in (100, 101, 103):
                self.assertEqual(gate.come("note", 7, 80, number, "say", ""), ("kept", "nobody"))
                for word in ("open", "say", "close", "break"):
                    self.assertEqual(gate.come("line", 7, 80, number, word, ""), ("kept", "nobody"))

    def test_by_a_number_that_rests(self):
        gate = Gate(form_of(sieve="all"))
        gate.out("note", 3, 40, 7, 80, "say", "")
        gate.wait(10)
        self.assertEqual(gate.rests(), [(100, 17)])
        self.assertEqual(gate.come("note", 7, 80, 100, "say", ""), ("kept", "nobody"))

    def test_by_a_number_that_is_lent_for_the_other_kind(self):
        for sieve in ("all", "place", "talk"):
            gate = Gate(form_of(sieve=sieve))
            gate.out("note", 3, 40, 7, 80, "say", "")
            gate.out("line", 3, 40, 7, 80, "open", "")
            self.assertEqual(gate.come("line", 7, 80, 100, "open", ""), ("kept", "nobody"))
            self.assertEqual(gate.come("note", 7, 80, 101, "say", ""), ("kept", "nobody"))

    def test_a_line_without_a_talk(self):
        for sieve in ("all", "place", "talk"):
            gate = Gate(form_of(sieve=sieve))
            gate.out("line", 3, 40, 7, 80, "open", "")
            for word in ("open", "say", "close", "break"):
                for place, far in ((7, 81), (8, 80)):
                    self.assertEqual(gate.come("line", place, far, 100, word, ""), ("kept", "sieve"))

    def test_a_note_by_each_sieve(self):
        kept, led = ("kept", "sieve"), ("in", 3, 40)
        for sieve, other_door, other_place in (("all", led, led), ("place", led, kept), ("talk", kept, kept)):
            for lending in ("door", "place", "talk"):
                gate = Gate(form_of(sieve=sieve, lending=lending))
                gate.out("note", 3, 40, 7, 80, "say", "")
                self.assertEqual(gate.come("note", 7, 80, 100, "say", ""), led)
                self.assertEqual(gate.come("note", 7, 81, 100, "say", ""), other_door)
                self.assertEqual(gate.come("note", 8, 80, 100, "say", ""), other_place)

    def test_by_place_any_living_talk_of_the_number_will_do(self):
        gate = Gate(form_of(sieve="place", lending="door"))
        gate.out("note", 3, 40, 7, 80, "say", "")
        gate.wait(5)
        gate.out("note", 3, 40, 8, 80, "say", "")
        gate.out("note", 3, 41, 9, 80, "say", "")
        for place in (7, 8):
            self.assertEqual(gate.come("note", place, 99, 100, "say", ""), ("in", 3, 40))
        self.assertEqual(gate.come("note", 9, 99, 100, "say", ""), ("kept", "sieve"))
        self.assertEqual(gate.come("note", 9, 99, 101, "say", ""), ("in", 3, 41))
        gate.wait(5)
        self.assertEqual(gate.come("note", 7, 99, 100, "say", ""), ("kept", "sieve"))
        self.assertEqual(gate.come("note", 8, 99, 100, "say", ""), ("in", 3, 40))

    def test_no_talk_begins_by_it_and_none_is_renewed(self):
        for sieve in ("all", "place", "talk"):
            gate = Gate(form_of(sieve=sieve, renew=True, lending="door"))
            gate.out("note", 3, 40, 7, 80, "say", "")
            gate.out("line", 3, 40, 7, 80, "open", "")
            gate.wait(2)
            told = without_book(gate)
            for place, far in ((7, 81), (8, 80)):
                for kind, number, word in (("note", 100, "say"), ("line", 101, "open"), ("note", 101, "say")):
                    gate.come(kind, place, far, number, word, "")
                    self.assertEqual(without_book(gate), told)
            self.assertEqual(gate.lost(1, "note", 100, 7, 81), ("kept", "nobody"))


class Lost(unittest.TestCase):
    def test_with_the_very_ends_of_a_talk_by_any_teller(self):
        gate = Gate(form_of())
        gate.out("note", 3, 40, 7, 80, "say", "")
        gate.out("line", 4, 41, 7, 80, "open", "")
        for teller in (1, 7, 8, 1000000):
            self.assertEqual(gate.lost(teller, "note", 100, 7, 80), ("told", 3, 40))
            self.assertEqual(gate.lost(teller, "line", 101, 7, 80), ("told", 4, 41))

    def test_with_one_part_otherwise(self):
        for sieve in ("all", "place", "talk"):
            gate = Gate(form_of(sieve=sieve, lending="door"))
            gate.out("note", 3, 40, 7, 80, "say", "")
            gate.out("line", 4, 40, 7, 80, "open", "")
            for row in (("line", 100, 7, 80), ("note", 101, 7, 80), ("note", 100, 8, 80), ("note", 100, 7, 81),
                        ("line", 101, 8, 80), ("line", 101, 7, 81), ("note", 102, 7, 80), ("note", 9, 7, 80)):
                self.assertEqual(gate.lost(7, *row), ("kept", "nobody"), row)

    def test_behind_the_talks_end(self):
        gate = Gate(form_of())
        gate.out("line", 3, 40, 7, 80, "open", "")
        gate.out("line", 3, 40, 7, 80, "break", "")
        self.assertEqual(gate.lost(7, "line", 100, 7, 80), ("kept", "nobody"))
        gate.out("note", 3, 40, 7, 80, "say", "")
        gate.wait(10)
        self.assertEqual(gate.lost(7, "note", 101, 7, 80), ("kept", "nobody"))

    def test_by_a_rules_number(self):
        gate = Gate(form_of())
        gate.rule("note", 9, None, 3, 40)
        self.assertEqual(gate.lost(7, "note", 9, 7, 80), ("kept", "nobody"))
        gate.come("note", 7, 80, 9, "say", "")
        self.assertEqual(gate.lost(7, "note", 9, 7, 80), ("told", 3, 40))

    def test_nothing_is_changed_by_it(self):
        gate = Gate(form_of(renew=True))
        gate.out("note", 3, 40, 7, 80, "say", "")
        gate.wait(4)
        told = without_book(gate)
        for row in ((7, "note", 100, 7, 80), (7, "note", 101, 7, 80), (7, "line", 100, 7, 80)):
            gate.lost(*row)
            self.assertEqual(without_book(gate), told)


if __name__ == "__main__":
    unittest.main()
