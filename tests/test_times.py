"""Points 8 and 10: how long talks live, how long numbers are lent, and how long they rest."""

import unittest

from lentgate.gate import Gate
from things import form_of, without_book

LINE = ("line", 1, 50, 7, 80)


def line_in(state, **parts):
    """A gate with one line in this state, begun by the house, but for a called one, at the moment 0."""
    gate = Gate(form_of(**parts))
    if state == "called":
        gate.rule("line", 9, None, 1, 50)
        gate.come("line", 7, 80, 9, "open", "")
        return gate
    gate.out(*LINE, "open", "")
    if state != "asked":
        gate.come("line", 7, 80, 100, "open", "")
    if state == "near":
        gate.out(*LINE, "close", "")
    if state == "far":
        gate.come("line", 7, 80, 100, "close", "")
    return gate


def states(gate):
    return [talk[6] for talk in gate.talks()]


def overs(gate):
    return [talk[7] for talk in gate.talks()]


class Lives(unittest.TestCase):
    def test_a_note_lives_for_the_first_time(self):
        gate = Gate(form_of())
        self.assertEqual(gate.out("note", 1, 50, 7, 80, "say", "hi"), ("led", 100))
        self.assertEqual(gate.talks(), [("note", 100, 1, 50, 7, 80, "note", 10)])
        gate.wait(9)
        self.assertEqual(gate.talks(), [("note", 100, 1, 50, 7, 80, "note", 10)])
        self.assertEqual(gate.lends(), [(100, "note", 1, 50, 7, 80)])
        self.assertEqual(gate.lost(3, "note", 100, 7, 80), ("told", 1, 50))
        gate.wait(1)
        self.assertEqual((gate.talks(), gate.lends()), ([], []))
        self.assertEqual(gate.lost(3, "note", 100, 7, 80), ("kept", "nobody"))

    def test_each_state_of_a_line_by_its_last_tick_and_behind_it(self):
        for state, time in (("asked", 5), ("called", 5), ("up", 20), ("near", 20), ("far", 20)):
            gate = line_in(state)
            number = 9 if state == "called" else 100
            self.assertEqual(gate.talks(), [("line", number, 1, 50, 7, 80, state, time)])
            gate.wait(time - 1)
            self.assertEqual(gate.talks(), [("line", number, 1, 50, 7, 80, state, time)])
            self.assertEqual(gate.lost(3, "line", number, 7, 80), ("told", 1, 50))
            gate.wait(1)
            self.assertEqual((gate.talks(), gate.lends()), ([], []))
            self.assertEqual(gate.lost(3, "line", number, 7, 80), ("kept", "nobody"))

    def test_a_talk_of_one_tick(self):
        gate = Gate(form_of(times=(1, 1, 1, 1)))
        gate.out("note", 1, 50, 7, 80, "say", "")
        gate.wait(0)
        self.assertEqual(overs(gate), [1])
        gate.wait(1)
        self.assertEqual((gate.talks(), gate.rests()), ([], [(100, 2)]))

    def test_led_to_shut_it_is_over_at_once(self):
        for state, deed in (
                ("asked", ("out", *LINE, "break", "")), ("up", ("come", "line", 7, 80, 100, "break", "")),
                ("near", ("come", "line", 7, 80, 100, "close", "")), ("far", ("out", *LINE, "close", "")),
                ("called", ("out", *LINE, "break", "")), ("called", ("come", "line", 7, 80, 9, "break", ""))):
            gate = line_in(state)
            gate.wait(3)
            self.assertEqual(gate.deed(deed)[0], "led" if deed[0] == "out" else "in")
            self.assertEqual((gate.talks(), gate.lends()), ([], []))
            self.assertEqual(gate.rests(), [] if state == "called" else [(100, 10)])

    def test_behind_its_end_a_talk_begins_anew(self):
        gate = line_in("up")
        gate.wait(20)
        self.assertEqual(gate.out(*LINE, "say", ""), ("kept", "astray"))
        self.assertEqual(gate.out(*LINE, "open", ""), ("led", 101))
        self.assertEqual(gate.talks(), [("line", 101, 1, 50, 7, 80, "asked", 25)])


class Renewed(unittest.TestCase):
    def test_each_letter_of_the_house_that_is_led_out_renews(self):
        for renew in (True, False):
            gate = Gate(form_of(renew=renew))
            for moment in (0, 9, 18):
                self.assertEqual(gate.out("note", 1, 50, 7, 80, "say", ""), ("led", 100))
                self.assertEqual(overs(gate), [moment + 10])
                gate.wait(9)
            for state, word in (("asked", "open"), ("up", "say"), ("far", "say")):
                gate = line_in(state, renew=renew)
                over = overs(gate)[0]
                gate.wait(3)
                self.assertEqual(gate.out(*LINE, word, ""), ("led", 100))
                self.assertEqual((states(gate), overs(gate)), ([state], [over + 3]))

    def test_a_letter_led_in_renews_where_renew_is_true_alone(self):
        for renew in (True, False):
            gate = Gate(form_of(renew=renew))
            gate.out("note", 1, 50, 7, 80, "say", "")
            gate.wait(4)
            self.assertEqual(gate.come("note", 7, 80, 100, "say", ""), ("in", 1, 50))
            self.assertEqual(overs(gate), [14 if renew else 10])
            for state, word, number in (("called", "open", 9), ("up", "say", 100), ("near", "say", 100)):
                gate = line_in(state, renew=renew)
                over = overs(gate)[0]
                gate.wait(4)
                self.assertEqual(gate.come("line", 7, 80, number, word, ""), ("in", 1, 50))
                self.assertEqual((states(gate), overs(gate)), ([state], [over + 4 if renew else over]))

    def test_a_letter_that_changes_the_state_renews_in_both(self):
        for renew in (True, False):
            for state, side, word, behind in (
                    ("asked", "far", "open", "up"), ("called", "house", "open", "up"),
                    ("up", "far", "close", "far"), ("up", "house", "close", "near")):
                gate = line_in(state, renew=renew)
                gate.wait(4)
                if side == "far":
                    self.assertEqual(gate.come("line", 7, 80, 100, word, ""), ("in", 1, 50))
                else:
                    self.assertEqual(gate.out(*LINE, word, "")[0], "led")
                self.assertEqual((states(gate), overs(gate)), ([behind], [24]))

    def test_what_is_kept_renews_nothing(self):
        for renew in (True, False):
            gate = line_in("asked", renew=renew)
            gate.wait(2)
            for deed in (
                    ("out", *LINE, "say", ""), ("out", *LINE, "close", ""), ("come", "line", 7, 80, 100, "say", ""),
                    ("come", "line", 7, 81, 100, "open", ""), ("come", "line", 8, 80, 100, "open", ""),
                    ("come", "note", 7, 80, 100, "say", "")):
                self.assertEqual(gate.deed(deed)[0], "kept")
                self.assertEqual((states(gate), overs(gate)), (["asked"], [5]))

    def test_a_note_let_in_by_the_sieve_renews_nothing(self):
        for sieve in ("all", "place"):
            gate = Gate(form_of(renew=True, sieve=sieve))
            gate.out("note", 1, 50, 7, 80, "say", "")
            gate.wait(4)
            self.assertEqual(gate.come("note", 7, 81, 100, "say", ""), ("in", 1, 50))
            self.assertEqual(gate.talks(), [("note", 100, 1, 50, 7, 80, "note", 10)])

    def test_told_as_lost_renews_nothing(self):
        gate = Gate(form_of(renew=True))
        gate.out("note", 1, 50, 7, 80, "say", "")
        gate.wait(4)
        self.assertEqual(gate.lost(7, "note", 100, 7, 80), ("told", 1, 50))
        self.assertEqual(overs(gate), [10])

    def test_a_turned_letter_that_is_kept_renews_all_the_same(self):
        gate = Gate(form_of())
        gate.out("note", 1, 50, 0, 80, "say", "")
        gate.wait(4)
        self.assertEqual(gate.out("note", 1, 50, 0, 80, "say", ""), ("turned", 100, ("kept", "nobody")))
        self.assertEqual(overs(gate), [14])


class Rests(unittest.TestCase):
    def test_a_rest_by_its_last_tick_and_behind_it(self):
        gate = Gate(form_of())
        gate.out("note", 1, 50, 7, 80, "say", "")
        gate.wait(9)
        self.assertEqual((gate.rests(), gate.free()), ([], 3))
        gate.wait(1)
        self.assertEqual((gate.rests(), gate.free()), ([(100, 17)], 3))
        gate.wait(6)
        self.assertEqual((gate.moment(), gate.rests(), gate.free()), (16, [(100, 17)], 3))
        gate.wait(1)
        self.assertEqual((gate.moment(), gate.rests(), gate.free()), (17, [], 4))

    def test_a_rest_of_0_is_none(self):
        gate = Gate(form_of(high=100, times=(10, 5, 20, 0)))
        gate.out("note", 1, 50, 7, 80, "say", "")
        self.assertEqual(gate.out("note", 1, 51, 7, 80, "say", ""), ("kept", "full"))
        gate.wait(10)
        self.assertEqual((gate.rests(), gate.free(), gate.lends()), ([], 1, []))
        self.assertEqual(gate.out("line", 1, 51, 7, 80, "open", ""), ("led", 100))
        self.assertEqual(gate.out("line", 1, 51, 7, 80, "break", ""), ("led", 100))
        self.assertEqual((gate.rests(), gate.free(), gate.lends()), ([], 1, []))

    def test_within_its_rest_a_number_is_not_lent(self):
        gate = Gate(form_of(high=100))
        gate.out("note", 1, 50, 7, 80, "say", "")
        gate.wait(10)
        for _ in range(7):
            self.assertEqual(gate.out("note", 1, 50, 7, 80, "say", ""), ("kept", "full"))
            gate.wait(1)
        self.assertEqual(gate.out("note", 1, 50, 7, 80, "say", ""), ("led", 100))

    def test_a_rest_is_counted_from_the_lends_end_not_from_the_wait(self):
        for late in (0, 1, 6, 7, 50):
            gate = Gate(form_of())
            gate.out("note", 1, 50, 7, 80, "say", "")
            gate.wait(10 + late)
            rests = late < 7
            self.assertEqual(gate.rests(), [(100, 17)] if rests else [])
            self.assertEqual(gate.free(), 3 if rests else 4)

    def test_a_number_lent_for_several_talks_ends_with_the_last_of_them(self):
        for late in (0, 5, 6, 7):
            gate = Gate(form_of(lending="door"))
            gate.out("note", 1, 50, 7, 80, "say", "")
            gate.wait(6)
            gate.out("note", 1, 50, 7, 81, "say", "")
            gate.wait(1)
            gate.out("note", 1, 50, 6, 80, "say", "")
            gate.wait(1)
            gate.out("note", 1, 50, 7, 81, "say", "")
            self.assertEqual(sorted(overs(gate)), [10, 17, 18])
            gate.wait(9)
            self.assertEqual(gate.lends(), [(100, "note", 1, 50, None, None)])
            self.assertEqual((overs(gate), gate.rests()), ([18], []))
            gate.wait(1 + late)
            self.assertEqual((gate.lends(), gate.rests()), ([], [(100, 25)] if late < 7 else []))

    def test_several_talks_of_one_number_over_in_one_wait(self):
        # The last to be over is neither the first nor the last that began.
        gate = Gate(form_of(lending="door"))
        for moment, far in ((0, 80), (1, 81), (2, 82)):
            gate.out("note", 1, 50, 7, far, "say", "")
            gate.wait(1)
        gate.out("note", 1, 50, 7, 81, "say", "")
        self.assertEqual(overs(gate), [10, 13, 12])
        gate.wait(14)
        self.assertEqual((gate.moment(), gate.lends(), gate.rests()), (17, [], [(100, 20)]))

    def test_a_shut_line_leaves_the_number_to_the_others(self):
        gate = Gate(form_of(lending="door"))
        gate.out("line", 1, 50, 7, 80, "open", "")
        gate.out("line", 1, 50, 7, 81, "open", "")
        gate.out("line", 1, 50, 7, 80, "break", "")
        self.assertEqual(gate.lends(), [(100, "line", 1, 50, None, None)])
        gate.out("line", 1, 50, 7, 81, "break", "")
        self.assertEqual((gate.lends(), gate.rests()), ([], [(100, 7)]))

    def test_a_wait_in_one_go_over_several_ends_and_rests(self):
        gate = Gate(form_of(most=9))
        gate.out("line", 1, 50, 7, 80, "open", "")
        gate.out("note", 1, 50, 7, 80, "say", "")
        gate.wait(3)
        gate.out("note", 2, 50, 7, 80, "say", "")
        gate.out("line", 3, 50, 7, 80, "open", "")
        gate.come("line", 7, 80, 103, "open", "")
        gate.wait(13)
        # 100 was over at 5 and is free from 12 on; 101 rests from 10 on, 102 from 13 on; 103 is up till 23.
        self.assertEqual(gate.moment(), 16)
        self.assertEqual(gate.rests(), [(101, 17), (102, 20)])
        self.assertEqual(gate.lends(), [(103, "line", 3, 50, 7, 80)])
        self.assertEqual(gate.free(), 1)
        gate.wait(1000000)
        self.assertEqual((gate.moment(), gate.rests(), gate.lends(), gate.free()), (1000016, [], [], 4))

    def test_one_wait_is_as_good_as_many_waits(self):
        by_ticks = self.with_three_talks()
        for ticks in range(1, 25):
            by_ticks.wait(1)
            in_one_go = self.with_three_talks()
            in_one_go.wait(ticks)
            self.assertEqual(without_book(by_ticks), without_book(in_one_go))

    def with_three_talks(self):
        gate = Gate(form_of(most=9, lending="place"))
        gate.out("line", 1, 50, 7, 80, "open", "")
        gate.out("note", 1, 50, 7, 80, "say", "")
        gate.out("note", 1, 50, 7, 81, "say", "")
        return gate

    def test_a_wait_of_0_changes_nothing(self):
        gate = line_in("up")
        gate.wait(19)
        told = without_book(gate)
        self.assertIsNone(gate.wait(0))
        self.assertEqual(without_book(gate), told)
        self.assertEqual(gate.moment(), 19)

    def test_the_longest_times(self):
        gate = Gate(form_of(times=(1000000, 1000000, 1000000, 1000000)))
        gate.out("note", 1, 50, 7, 80, "say", "")
        gate.wait(999999)
        self.assertEqual(overs(gate), [1000000])
        gate.wait(1)
        self.assertEqual((gate.talks(), gate.rests()), ([], [(100, 2000000)]))
        gate.wait(999999)
        self.assertEqual(gate.rests(), [(100, 2000000)])
        gate.wait(1)
        self.assertEqual((gate.moment(), gate.rests()), (2000000, []))


if __name__ == "__main__":
    unittest.main()
