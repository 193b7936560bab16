"""Points 2, 6, 8 and 10: what is a form, of anything; holders and times."""

import copy
import itertools
import random
import unittest

from lentgate.forms import holder_of, is_form, time_of
from things import NO_TUPLES, SIXTY, STRANGE, anything, part_twice, with_part, without_part

TIMES = (30, 5, 200, 60)
FORM = (100, 149, "door", "all", "next", 8, True, TIMES)

LENDINGS = ["door", "place", "talk"]
SIEVES = ["all", "place", "talk"]
PICKS = ["next", "keep"]


class Forms(unittest.TestCase):
    def told(self, thing, wanted):
        # The very True or False, not something that counts as such.
        self.assertIs(is_form(thing), wanted, repr(thing))

    def test_every_lending_sieve_pick_and_renew(self):
        for lending, sieve, pick, renew in itertools.product(LENDINGS, SIEVES, PICKS, [True, False]):
            self.told((100, 149, lending, sieve, pick, 8, renew, TIMES), True)

    def test_words_at_other_places(self):
        words = sorted(set(LENDINGS + SIEVES + PICKS + ["", "Door", "all ", "none", "note", "line", "say"]))
        for at, right in ((2, LENDINGS), (3, SIEVES), (4, PICKS)):
            for word in words:
                self.told(with_part(FORM, at, word), word in right)

    def test_low_and_high(self):
        for low, high in ((1, 1), (1, 2), (1, 200), (100, 100), (100, 299), (100, 298), (9999, 9999), (9800, 9999)):
            self.told((low, high) + FORM[2:], True)
        for low, high in ((100, 99), (100, 300), (1, 201), (2, 1), (9999, 9998), (100, 1), (100, SIXTY)):
            self.told((low, high) + FORM[2:], False)

    def test_numbers_beyond_their_bounds(self):
        for low, high in ((0, 0), (0, 1), (0, 50), (-1, 1), (-SIXTY, 1), (9801, 10000), (9999, 10000),
                          (10000, 10000), (10000, 10001), (SIXTY, SIXTY), (-5, -5)):
            self.told((low, high) + FORM[2:], False)

    def test_most(self):
        for most in (1, 2, 199, 200):
            self.told(with_part(FORM, 5, most), True)
        for most in (0, -1, 201, SIXTY, -SIXTY):
            self.told(with_part(FORM, 5, most), False)

    def test_renew(self):
        for renew in (True, False):
            self.told(with_part(FORM, 6, renew), True)
        for renew in (1, 0, 2, None, "True", "", [], (), [True], (False,)):
            self.told(with_part(FORM, 6, renew), False)

    def test_each_time_at_its_bounds(self):
        for at, least in enumerate((1, 1, 1, 0)):
            for time in (least, least + 1, 999999, 1000000):
                self.told(with_part(FORM, 7, with_part(TIMES, at, time)), True)
            for time in (least - 1, -5, 1000001, SIXTY, -SIXTY):
                self.told(with_part(FORM, 7, with_part(TIMES, at, time)), False)
        self.told(with_part(FORM, 7, (1, 1, 1, 0)), True)
        self.told(with_part(FORM, 7, (1000000, 1000000, 1000000, 1000000)), True)
        self.told(with_part(FORM, 7, (0, 0, 0, 0)), False)

    def test_strange_times(self):
        for at in range(4):
            for part in STRANGE:
                self.told(with_part(FORM, 7, with_part(TIMES, at, part)), False)
            self.told(with_part(FORM, 7, without_part(TIMES, at)), False)
            self.told(with_part(FORM, 7, part_twice(TIMES, at)), False)
        for times in (list(TIMES), (TIMES,), [TIMES], (), [], 30, "30 5 200 60"):
            self.told(with_part(FORM, 7, times), False)

    def test_strange_parts(self):
        for at in range(8):
            for part in STRANGE:
                if at == 6 and isinstance(part, bool):
                    continue
                self.told(with_part(FORM, at, part), False)

    def test_truths_where_their_number_would_do(self):
        self.told((1, 1) + FORM[2:], True)
        for low, high in ((True, 1), (1, True), (True, True), (True, 5)):
            self.told((low, high) + FORM[2:], False)
        self.told(with_part(FORM, 5, True), False)
        self.told(with_part(FORM, 7, (30, 5, 200, False)), False)

    def test_part_left_out_or_told_twice(self):
        for at in range(8):
            self.told(without_part(FORM, at), False)
            self.told(part_twice(FORM, at), False)
        self.told(FORM[:7] + TIMES, False)
        self.told(FORM + (None,), False)

    def test_list_in_the_forms_place(self):
        self.told(list(FORM), False)
        self.told([FORM], False)
        self.told((FORM,), False)

    def test_no_tuples_and_empty_ones(self):
        for thing in NO_TUPLES:
            self.told(thing, False)

    def test_anything_is_told_and_left_as_it_is(self):
        source = random.Random(7)
        for _ in range(4000):
            thing = anything(source)
            held = copy.deepcopy(thing)
            self.assertIn(is_form(thing), (True, False))
            self.assertEqual(repr(thing), repr(held))

    def test_anything_in_the_place_of_a_part(self):
        source = random.Random(8)
        for _ in range(4000):
            part = [anything(source, 5)]
            self.told(with_part(FORM, source.randrange(8), part), False)
            self.told(with_part(FORM, source.randrange(7), tuple(part)), False)
            self.told(with_part(FORM, 7, with_part(TIMES, source.randrange(4), part)), False)


class Holders(unittest.TestCase):
    INNER = ("note", 3, 40, 7, 80)
    # Each differs from INNER in the one part of this place.
    OTHERS = [("line", 3, 40, 7, 80), ("note", 4, 40, 7, 80), ("note", 3, 41, 7, 80),
              ("note", 3, 40, 8, 80), ("note", 3, 40, 7, 81)]

    def by(self, lending, inner):
        return holder_of(with_part(FORM, 2, lending), inner)

    def test_by_each_lending(self):
        self.assertEqual(self.by("door", self.INNER), ("note", 3, 40, None, None))
        self.assertEqual(self.by("place", self.INNER), ("note", 3, 40, 7, None))
        self.assertEqual(self.by("talk", self.INNER), ("note", 3, 40, 7, 80))

    def test_place_nought_and_bounds(self):
        for inner in (("line", 0, 1, 0, 1), ("line", 99, 9999, 1000000, 9999)):
            kind, house, door, place, far = inner
            self.assertEqual(self.by("door", inner), (kind, house, door, None, None))
            self.assertEqual(self.by("place", inner), (kind, house, door, place, None))
            self.assertEqual(self.by("talk", inner), inner)

    def test_tuples_are_told(self):
        for lending in LENDINGS:
            self.assertIsInstance(self.by(lending, self.INNER), tuple)

    def test_alike_inner_ends_have_one_holder(self):
        for lending in LENDINGS:
            self.assertEqual(self.by(lending, self.INNER), self.by(lending, tuple(list(self.INNER))))

    def test_inner_ends_that_differ_in_one_part(self):
        parts_that_count = {"door": 3, "place": 4, "talk": 5}
        for lending in LENDINGS:
            for at, other in enumerate(self.OTHERS):
                differs = self.by(lending, self.INNER) != self.by(lending, other)
                self.assertEqual(differs, at < parts_that_count[lending], (lending, other))

    def test_only_the_lending_decides(self):
        for sieve, pick, renew in itertools.product(SIEVES, PICKS, [True, False]):
            form = (1, 1, "place", sieve, pick, 1, renew, (1, 1, 1, 0))
            self.assertEqual(holder_of(form, self.INNER), ("note", 3, 40, 7, None))


class Times(unittest.TestCase):
    def test_time_of_each_state(self):
        wanted = {"note": 30, "asked": 5, "called": 5, "up": 200, "near": 200, "far": 200}
        for state, time in wanted.items():
            self.assertEqual(time_of(FORM, state), time, state)

    def test_times_at_their_bounds(self):
        form = with_part(FORM, 7, (1000000, 1, 2, 0))
        wanted = {"note": 1000000, "asked": 1, "called": 1, "up": 2, "near": 2, "far": 2}
        for state, time in wanted.items():
            self.assertEqual(time_of(form, state), time, state)

    def test_whole_numbers_are_told(self):
        for state in ("note", "asked", "called", "up", "near", "far"):
            self.assertIs(type(time_of(FORM, state)), int)


if __name__ == "__main__":
    unittest.main()
