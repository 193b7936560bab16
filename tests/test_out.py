"""Points 11 and 12: what a house writes, also to the court's own place."""

import unittest

from lentgate.gate import Gate
from things import form_of, without_book


class Led(unittest.TestCase):
    def test_a_first_letter_is_lent_the_picked_number(self):
        gate = Gate(form_of())
        self.assertEqual(gate.out("note", 3, 40, 7, 80, "say", "how are you"), ("led", 100))
        self.assertEqual(gate.lends(), [(100, "note", 3, 40, 7, 80)])
        self.assertEqual(gate.talks(), [("note", 100, 3, 40, 7, 80, "note", 10)])
        self.assertEqual(gate.free(), 3)
        self.assertEqual(gate.out("line", 3, 40, 7, 80, "open", ""), ("led", 101))
        self.assertEqual(gate.lends(), [(100, "note", 3, 40, 7, 80), (101, "line", 3, 40, 7, 80)])

    def test_a_living_talk_keeps_its_number(self):
        gate = Gate(form_of())
        gate.out("line", 3, 40, 7, 80, "open", "")
        gate.out("note", 3, 40, 7, 80, "say", "")
        for word in ("open", "open"):
            self.assertEqual(gate.out("line", 3, 40, 7, 80, word, ""), ("led", 100))
        gate.come("line", 7, 80, 100, "open", "")
        for word in ("say", "close"):
            self.assertEqual(gate.out("line", 3, 40, 7, 80, word, ""), ("led", 100))
        self.assertEqual(gate.out("line", 3, 40, 7, 80, "break", ""), ("led", 100))
        self.assertEqual(gate.out("note", 3, 40, 7, 80, "say", ""), ("led", 101))

    def test_the_number_of_the_holder_by_each_lending(self):
        ends = [("note", 3, 40, 7, 80), ("note", 3, 40, 7, 81), ("note", 3, 40, 8, 80), ("note", 3, 41, 7, 80),
                ("note", 4, 40, 7, 80), ("line", 3, 40, 7, 80), ("note", 3, 40, 7, 81)]
        for lending, numbers in (
                ("door", [100, 100, 100, 101, 102, 103, 100]), ("place", [100, 100, 101, 102, 103, 104, 100]),
                ("talk", [100, 101, 102, 103, 104, 105, 101])):
            gate = Gate(form_of(lending=lending, high=120, most=9))
            words = ["open" if end[0] == "line" else "say" for end in ends]
            led = [gate.out(*end, word, "") for end, word in zip(ends, words)]
            self.assertEqual(led, [("led", number) for number in numbers])
            self.assertEqual(len(gate.talks()), 6)
            self.assertEqual(len(gate.lends()), len(set(numbers)))

    def test_behind_its_end_the_holder_is_lent_another_one(self):
        for lending in ("door", "place", "talk"):
            gate = Gate(form_of(lending=lending, times=(10, 5, 20, 0)))
            self.assertEqual(gate.out("note", 3, 40, 7, 80, "say", ""), ("led", 100))
            gate.wait(10)
            self.assertEqual(gate.out("note", 3, 40, 7, 80, "say", ""), ("led", 101))
            self.assertEqual([row[0] for row in gate.lends()], [101])

    def test_keep_and_next(self):
        for pick, numbers in (("next", [100, 101, 102]), ("keep", [102, 103, 100])):
            gate = Gate(form_of(pick=pick))
            led = [gate.out("note", house, door, 7, 80, "say", "") for house, door in ((1, 102), (2, 102), (3, 99))]
            self.assertEqual(led, [("led", number) for number in numbers])

    def test_keep_where_the_door_rests(self):
        gate = Gate(form_of(pick="keep"))
        gate.out("note", 1, 103, 7, 80, "say", "")
        gate.wait(16)
        self.assertEqual(gate.out("note", 1, 103, 7, 81, "say", ""), ("led", 100))
        gate.wait(1)
        self.assertEqual(gate.out("note", 1, 103, 7, 82, "say", ""), ("led", 103))


class Kept(unittest.TestCase):
    def test_most_counts_both_kinds(self):
        gate = Gate(form_of(most=2))
        gate.out("note", 1, 50, 7, 80, "say", "")
        gate.out("line", 1, 51, 7, 80, "open", "")
        self.assertEqual(gate.out("note", 1, 52, 7, 80, "say", ""), ("kept", "most"))
        self.assertEqual(gate.out("line", 1, 52, 7, 80, "open", ""), ("kept", "most"))
        self.assertEqual(gate.out("note", 2, 52, 7, 80, "say", ""), ("led", 102))
        gate.out("line", 1, 51, 7, 80, "break", "")
        self.assertEqual(gate.out("note", 1, 52, 7, 80, "say", ""), ("led", 103))

    def test_most_counts_numbers_not_talks(self):
        gate = Gate(form_of(most=1, lending="door"))
        for far in (80, 81, 82):
            self.assertEqual(gate.out("note", 1, 50, 7, far, "say", ""), ("led", 100))
        self.assertEqual(gate.out("note", 1, 51, 7, 80, "say", ""), ("kept", "most"))
        self.assertEqual(gate.out("line", 1, 50, 7, 80, "open", ""), ("kept", "most"))

    def test_numbers_that_rest_are_not_held(self):
        gate = Gate(form_of(most=1))
        gate.out("note", 1, 50, 7, 80, "say", "")
        gate.wait(9)
        self.assertEqual(gate.out("note", 1, 51, 7, 80, "say", ""), ("kept", "most"))
        gate.wait(1)
        self.assertEqual(gate.rests(), [(100, 17)])
        self.assertEqual(gate.out("note", 1, 51, 7, 80, "say", ""), ("led", 101))

    def test_a_rules_number_is_not_held(self):
        gate = Gate(form_of(most=1))
        gate.rule("note", 9, None, 1, 50)
        gate.come("note", 7, 80, 9, "say", "")
        self.assertEqual(gate.out("note", 1, 51, 7, 80, "say", ""), ("led", 100))

    def test_full(self):
        gate = Gate(form_of(high=101))
        gate.out("note", 1, 50, 7, 80, "say", "")
        gate.out("note", 2, 50, 7, 80, "say", "")
        self.assertEqual(gate.out("note", 3, 50, 7, 80, "say", ""), ("kept", "full"))
        self.assertEqual(gate.out("line", 1, 50, 7, 80, "open", ""), ("kept", "full"))
        self.assertEqual(gate.out("note", 1, 50, 7, 80, "say", ""), ("led", 100))

    def test_full_while_numbers_rest(self):
        gate = Gate(form_of(high=100))
        gate.out("line", 1, 50, 7, 80, "open", "")
        gate.out("line", 1, 50, 7, 80, "break", "")
        self.assertEqual(gate.out("note", 2, 50, 7, 80, "say", ""), ("kept", "full"))

    def test_most_comes_ahead_of_full(self):
        gate = Gate(form_of(high=100, most=1))
        gate.out("note", 1, 50, 7, 80, "say", "")
        self.assertEqual(gate.out("note", 1, 51, 7, 80, "say", ""), ("kept", "most"))
        self.assertEqual(gate.out("note", 2, 51, 7, 80, "say", ""), ("kept", "full"))

    def test_astray_comes_ahead_of_both(self):
        gate = Gate(form_of(high=100, most=1))
        gate.out("note", 1, 50, 7, 80, "say", "")
        for house in (1, 2):
            for word in ("say", "close", "break"):
                self.assertEqual(gate.out("line", house, 51, 7, 80, word, ""), ("kept", "astray"))

    def test_astray_in_a_living_talk(self):
        gate = Gate(form_of())
        gate.out("line", 1, 50, 7, 80, "open", "")
        for word in ("say", "close"):
            self.assertEqual(gate.out("line", 1, 50, 7, 80, word, ""), ("kept", "astray"))
        gate.come("line", 7, 80, 100, "open", "")
        self.assertEqual(gate.out("line", 1, 50, 7, 80, "open", ""), ("kept", "astray"))
        gate.out("line", 1, 50, 7, 80, "close", "")
        for word in ("open", "say", "close"):
            self.assertEqual(gate.out("line", 1, 50, 7, 80, word, ""), ("kept", "astray"))

    def test_what_is_kept_changes_nothing(self):
        for why, deeds in (
                ("astray", [("line", 1, 51, 7, 80, "say", ""), ("line", 5, 103, 0, 100, "break", "")]),
                ("most", [("note", 1, 52, 7, 80, "say", ""), ("note", 1, 103, 0, 100, "say", "")])):
            gate = Gate(form_of(most=2))
            gate.out("note", 1, 50, 7, 80, "say", "")
            gate.out("line", 1, 51, 7, 80, "open", "")
            told = without_book(gate)
            for deed in deeds:
                self.assertEqual(gate.out(*deed), ("kept", why))
                self.assertEqual(without_book(gate), told)
            self.assertEqual(gate.out("note", 2, 50, 7, 80, "say", ""), ("led", 102))

    def test_kept_as_full_leaves_the_mark(self):
        gate = Gate(form_of(high=102, times=(10, 5, 20, 0)))
        for house in (1, 2, 3):
            gate.out("line", house, 50, 7, 80, "open", "")
        gate.out("line", 1, 50, 7, 80, "open", "")
        told = without_book(gate)
        for _ in range(2):
            self.assertEqual(gate.out("note", 4, 101, 7, 80, "say", ""), ("kept", "full"))
            self.assertEqual(without_book(gate), told)
        gate.out("line", 3, 50, 7, 80, "break", "")
        gate.out("line", 1, 50, 7, 80, "break", "")
        self.assertEqual(gate.out("note", 4, 50, 7, 80, "say", ""), ("led", 100))

    def test_a_pool_of_one_number_at_either_end(self):
        for only in (1, 9999):
            gate = Gate(form_of(low=only, high=only, pick="keep"))
            self.assertEqual(gate.out("note", 0, 1, 1, 1, "say", ""), ("led", only))
            self.assertEqual(gate.out("note", 99, 9999, 1000000, 9999, "say", ""), ("kept", "full"))


class Turned(unittest.TestCase):
    def test_to_a_lent_number(self):
        gate = Gate(form_of(sieve="all"))
        gate.out("note", 1, 50, 7, 80, "say", "")
        self.assertEqual(gate.out("note", 2, 60, 0, 100, "say", ""), ("turned", 101, ("in", 1, 50)))
        self.assertEqual(gate.talks(), [
            ("note", 100, 1, 50, 7, 80, "note", 10), ("note", 101, 2, 60, 0, 100, "note", 10)])

    def test_two_houses_that_write_to_each_others_numbers(self):
        for sieve in ("all", "place", "talk"):
            gate = Gate(form_of(sieve=sieve, renew=True, lending="door"))
            gate.out("note", 1, 50, 7, 80, "say", "")
            first = gate.out("note", 2, 60, 0, 100, "say", "")
            self.assertEqual(first, ("turned", 101, ("in", 1, 50) if sieve == "all" else ("kept", "sieve")))
            gate.wait(3)
            # Now the other house has a talk with the court's own place, by just this end.
            self.assertEqual(gate.out("note", 1, 50, 0, 101, "say", ""), ("turned", 100, ("in", 2, 60)))
            self.assertEqual(gate.out("note", 2, 60, 0, 100, "say", ""), ("turned", 101, ("in", 1, 50)))
            self.assertEqual(gate.talks(), [
                ("note", 100, 1, 50, 0, 101, "note", 13), ("note", 100, 1, 50, 7, 80, "note", 10),
                ("note", 101, 2, 60, 0, 100, "note", 13)])

    def test_by_the_sieve_place_the_place_0_is_one_like_others(self):
        gate = Gate(form_of(sieve="place", lending="door"))
        gate.out("note", 1, 50, 0, 9, "say", "")
        self.assertEqual(gate.out("note", 2, 60, 0, 100, "say", ""), ("turned", 101, ("in", 1, 50)))

    def test_to_its_own_number(self):
        gate = Gate(form_of())
        self.assertEqual(gate.out("note", 1, 50, 0, 100, "say", ""), ("turned", 100, ("in", 1, 50)))
        self.assertEqual(gate.talks(), [("note", 100, 1, 50, 0, 100, "note", 10)])
        gate = Gate(form_of())
        # What comes in finds the very talk that it went out in: asked, then answered by itself.
        self.assertEqual(gate.out("line", 1, 50, 0, 100, "open", ""), ("turned", 100, ("in", 1, 50)))
        self.assertEqual(gate.talks(), [("line", 100, 1, 50, 0, 100, "up", 20)])
        gate.wait(2)
        self.assertEqual(gate.out("line", 1, 50, 0, 100, "say", ""), ("turned", 100, ("in", 1, 50)))
        self.assertEqual(gate.out("line", 1, 50, 0, 100, "close", ""), ("turned", 100, ("in", 1, 50)))
        self.assertEqual((gate.talks(), gate.rests()), ([], [(100, 9)]))

    def test_broken_off_with_its_own_number_it_finds_nobody(self):
        gate = Gate(form_of())
        gate.out("line", 1, 50, 0, 100, "open", "")
        self.assertEqual(gate.out("line", 1, 50, 0, 100, "break", ""), ("turned", 100, ("kept", "nobody")))
        self.assertEqual((gate.talks(), gate.rests()), ([], [(100, 7)]))

    def test_to_a_number_that_is_lent_just_by_going_out(self):
        gate = Gate(form_of(sieve="all", lending="place"))
        gate.out("note", 1, 50, 7, 80, "say", "")
        # 101 is nobody's ahead of this letter; it goes out by 101, and so it finds itself.
        self.assertEqual(gate.out("note", 2, 60, 0, 101, "say", ""), ("turned", 101, ("in", 2, 60)))

    def test_to_a_number_that_nobody_has(self):
        gate = Gate(form_of(lending="door"))
        for far in (102, 99, 104, 1, 9999):
            self.assertEqual(gate.out("note", 1, 50, 0, far, "say", ""), ("turned", 100, ("kept", "nobody")))
        self.assertEqual(len(gate.talks()), 5)

    def test_kept_at_its_coming_in_it_went_out_all_the_same(self):
        gate = Gate(form_of())
        gate.out("line", 1, 50, 7, 80, "open", "")
        self.assertEqual(gate.out("line", 2, 60, 0, 100, "open", ""), ("turned", 101, ("kept", "sieve")))
        self.assertEqual(gate.out("line", 2, 60, 0, 100, "open", ""), ("turned", 101, ("kept", "sieve")))
        self.assertEqual(gate.out("note", 2, 60, 0, 100, "say", ""), ("turned", 102, ("kept", "nobody")))
        self.assertEqual(gate.lends(), [
            (100, "line", 1, 50, 7, 80), (101, "line", 2, 60, 0, 100), (102, "note", 2, 60, 0, 100)])

    def test_to_a_rules_number(self):
        gate = Gate(form_of(renew=True))
        gate.rule("line", 9, None, 1, 50)
        self.assertEqual(gate.out("line", 2, 60, 0, 9, "open", ""), ("turned", 100, ("in", 1, 50)))
        self.assertEqual(gate.talks(), [
            ("line", 9, 1, 50, 0, 100, "called", 5), ("line", 100, 2, 60, 0, 9, "asked", 5)])
        self.assertEqual(gate.out("line", 1, 50, 0, 100, "open", ""), ("turned", 9, ("in", 2, 60)))
        self.assertEqual([talk[6] for talk in gate.talks()], ["up", "up"])
        self.assertEqual(gate.out("line", 2, 60, 0, 9, "say", ""), ("turned", 100, ("in", 1, 50)))
        self.assertEqual(gate.out("line", 2, 60, 0, 9, "close", ""), ("turned", 100, ("in", 1, 50)))
        self.assertEqual([talk[6] for talk in gate.talks()], ["far", "near"])
        self.assertEqual(gate.out("line", 1, 50, 0, 100, "close", ""), ("turned", 9, ("in", 2, 60)))
        self.assertEqual((gate.talks(), gate.lends()), ([], []))

    def test_an_astray_word_on_its_way_in(self):
        gate = Gate(form_of())
        gate.rule("line", 9, None, 1, 50)
        gate.out("line", 2, 60, 0, 9, "open", "")
        gate.out("line", 1, 50, 0, 100, "open", "")
        gate.wait(19)
        gate.out("line", 2, 60, 0, 9, "say", "")
        gate.wait(1)
        # The rule's talk is over, that of the writer is not: its word is astray with no talk.
        self.assertEqual(gate.out("line", 2, 60, 0, 9, "say", ""), ("turned", 100, ("kept", "astray")))
        self.assertEqual(gate.talks(), [("line", 100, 2, 60, 0, 9, "up", 40)])

    def test_kept_at_its_going_out_it_does_not_come_in(self):
        gate = Gate(form_of(most=1, high=101))
        gate.rule("note", 9, None, 5, 50)
        gate.out("note", 1, 50, 7, 80, "say", "")
        self.assertEqual(gate.out("note", 1, 51, 0, 9, "say", ""), ("kept", "most"))
        self.assertEqual(gate.out("line", 1, 51, 0, 9, "say", ""), ("kept", "astray"))
        gate.out("note", 2, 50, 7, 80, "say", "")
        self.assertEqual(gate.out("note", 3, 51, 0, 9, "say", ""), ("kept", "full"))
        self.assertEqual(len(gate.talks()), 2)


if __name__ == "__main__":
    unittest.main()
