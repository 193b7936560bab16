"""Accounts: what a house had of the gate (point 28)."""

import copy
import random
import unittest

from lentgate.accounts import account
from lentgate.errors import NoForm
from lentgate.forms import is_form
from lentgate.gate import Gate
from lentgate.looker import looked, replayed
from test_looker import FreePicker, row_of_deeds
from test_model import some_form
from things import NO_TUPLES, STRANGE, anything, form_of, with_part


def out(house=3, door=40, place=7, far=80, kind="note", word="say"):
    return ("out", kind, house, door, place, far, word, "")


def line(word, **parts):
    return out(kind="line", word=word, **parts)


def come(number, far=80, kind="note", word="say"):
    return ("come", kind, 7, far, number, word, "")


class Parts(unittest.TestCase):
    def check(self, expected, *deeds, house=3, **parts):
        """The account by the deeds of a gate of this form."""
        form = form_of(**parts)
        self.assertEqual(account(form, replayed(form, deeds).book(), house), expected)

    def test_nothing_done(self):
        self.check((0, 0, 0, 0, 0))
        self.check((0, 0, 0, 0, 0), ("wait", 5))

    def test_a_house_without_a_deed(self):
        self.check((0, 0, 0, 0, 0), out(), come(100), ("wait", 5), ("lost", 9, "note", 100, 7, 80), house=4)
        self.check((1, 0, 2, 1, 5), out(), come(100), ("wait", 5), ("lost", 9, "note", 100, 7, 80))

    def test_houses_at_the_bounds(self):
        for house in (0, 99):
            self.check((1, 0, 1, 1, 0), out(house=house), come(100), house=house)
            self.check((0, 0, 0, 0, 0), out(house=house), come(100), house=99 - house)

    def test_led_and_kept_by_each_reason(self):
        self.check((2, 0, 0, 1, 0), out(), out())
        self.check((1, 1, 0, 1, 0), out(), line("say"))
        self.check((1, 2, 0, 1, 0), out(), out(far=81), out(far=82), most=1)
        self.check((1, 1, 0, 1, 0), out(), out(far=81), high=100)
        self.check((0, 1, 0, 0, 0), out(house=4), out(), high=100)

    def test_turned_ones_are_led_whatever_comes_of_them(self):
        self.check((1, 0, 0, 1, 0), out(place=0, far=9))
        self.check((1, 0, 0, 1, 0), out(house=4), out(place=0, far=100))
        # To itself: it is written, and got.
        self.check((1, 0, 1, 1, 0), out(place=0, far=100))
        self.check((0, 1, 0, 0, 0), line("say", place=0, far=9))

    def test_turned_ones_are_got_by_the_other_house(self):
        deeds = [("rule", "note", 9, None, 4, 41), out(place=0, far=9)]
        self.check((1, 0, 0, 1, 0), *deeds)
        self.check((0, 0, 1, 0, 0), *deeds, house=4)

    def test_things_that_are_got(self):
        deeds = [out(), come(100), come(100), come(100, far=81), ("lost", 9, "note", 100, 7, 80),
                 ("lost", 9, "note", 100, 7, 81), ("come", "note", 6, 80, 100, "say", "")]
        self.check((1, 0, 3, 1, 0), *deeds)
        self.check((1, 0, 4, 1, 0), *deeds, lending="place", sieve="place")
        self.check((1, 0, 5, 1, 0), *deeds, sieve="all")

    def test_letters_by_a_rules_number(self):
        deeds = [("rule", "note", 9, None, 3, 40), come(9), out(), ("wait", 5), ("lost", 9, "note", 9, 7, 80)]
        # Such a number is not lent.
        self.check((1, 0, 2, 0, 0), *deeds)

    def test_the_greatest_number_of_numbers(self):
        self.check((3, 0, 0, 3, 0), out(), out(far=81), out(door=41))
        self.check((3, 0, 0, 2, 0), out(), out(far=81), out(door=41), lending="door")
        self.check((2, 0, 0, 2, 0), out(), line("open"))
        self.check((2, 0, 0, 2, 0), out(), out(house=4), out(far=81), out(house=4, far=81))
        # It is not the last one that counts.
        self.check((3, 0, 0, 2, 20), out(), out(far=81), ("wait", 100), out())

    def test_one_number_ends_and_another_is_lent_at_the_same_moment(self):
        self.check((2, 0, 0, 1, 10), out(), ("wait", 10), out(far=81))
        self.check((2, 0, 0, 2, 9), out(), ("wait", 9), out(far=81))
        self.check((3, 0, 0, 1, 0), line("open"), line("break"), line("open", far=81))
        self.check((3, 0, 0, 1, 0), line("open"), line("break"), line("open", far=81), times=(10, 5, 20, 0))

    def test_ticks_of_lends_that_end_at_a_waits_end_or_within(self):
        for ticks, lent in ((0, 0), (1, 1), (9, 9), (10, 10), (11, 10), (1000000, 10)):
            self.check((1, 0, 0, 1, lent), out(), ("wait", ticks))
        self.check((1, 0, 0, 1, 10), out(), ("wait", 4), ("wait", 4), ("wait", 4), ("wait", 4))
        # Rests are no lends.
        self.check((2, 0, 0, 1, 13), out(), ("wait", 16), out(far=81), ("wait", 3))

    def test_ticks_of_lends_that_last_still(self):
        self.check((1, 0, 0, 1, 3), out(), ("wait", 3))
        self.check((2, 0, 0, 1, 15), out(), ("wait", 8), out(), ("wait", 7))
        self.check((2, 0, 0, 1, 18), out(), ("wait", 8), out(), ("wait", 100))

    def test_ticks_of_several_numbers_are_added(self):
        self.check((2, 0, 0, 2, 6), out(), out(far=81), ("wait", 3))
        self.check((2, 0, 0, 2, 15), out(), line("open"), ("wait", 100))
        # The second one lives a while longer.
        self.check((2, 0, 0, 2, 20), out(), ("wait", 5), out(far=81), ("wait", 100))
        self.check((1, 0, 0, 1, 3), out(), out(house=4), ("wait", 3))

    def test_a_lend_lasts_till_its_last_talk_is_over(self):
        self.check((2, 0, 0, 1, 15), out(), ("wait", 5), out(far=81), ("wait", 100), lending="door")
        self.check((2, 0, 0, 1, 10), out(), out(far=81), ("wait", 100), lending="door")

    def test_a_line_that_is_shut(self):
        self.check((2, 0, 0, 1, 3), line("open"), ("wait", 3), line("break"), ("wait", 100))
        self.check((1, 0, 1, 1, 3), line("open"), ("wait", 3), come(100, kind="line", word="break"), ("wait", 100))
        self.check((1, 0, 1, 1, 23), line("open"), ("wait", 3), come(100, kind="line", word="open"), ("wait", 100))

    def test_letters_that_come_in_renew(self):
        deeds = [out(), ("wait", 9), come(100), ("wait", 100)]
        self.check((1, 0, 1, 1, 19), *deeds, renew=True)
        self.check((1, 0, 1, 1, 10), *deeds, renew=False)


class Books(unittest.TestCase):
    def test_numbers_picked_otherwise(self):
        for numbers in ((103, 100, 102), (101, 102, 103), (100, 101, 102)):
            book = [(out(far=far), ("led", number)) for far, number in zip((1, 2, 3), numbers)]
            last = [number for number in (100, 101, 102, 103) if number not in numbers][0]
            book += [(come(numbers[1], far=2), ("in", 3, 40)), (("wait", 4), None), (out(far=1), ("led", numbers[0])),
                     (out(place=0, far=numbers[0]), ("turned", last, ("kept", "sieve")))]
            self.assertIsNone(looked(form_of(), book))
            for pick in ("next", "keep"):
                self.assertEqual(account(form_of(pick=pick), book, 3), (5, 0, 1, 4, 12))

    def test_the_number_decides_what_is_taken(self):
        # By "next" 100 would be picked for house 3, and 101 for house 4; then 101 comes for house 3.
        book = [(out(), ("led", 101)), (out(house=4), ("led", 100)), (come(101), ("in", 3, 40)),
                (("wait", 9), None), (come(100), ("in", 4, 40)), (("wait", 9), None)]
        form = form_of(renew=True)
        self.assertIsNone(looked(form, book))
        self.assertEqual(account(form, book, 3), (1, 0, 1, 1, 10))
        self.assertEqual(account(form, book, 4), (1, 0, 1, 1, 18))

    def test_against_plain_reckoning(self):
        source, seen = random.Random(1), [set() for _ in range(5)]
        for _ in range(150):
            form = some_form(source)
            book = row_of_deeds(source, form, 50)
            for house in range(4):
                told = account(form, book, house)
                self.assertEqual(told, self.reckoned(form, book, house), form)
                for part, values in zip(told, seen):
                    values.add(part)
        self.assertGreater(min([len(values) for values in seen]), 3)

    def reckoned(self, form, book, house):
        """Tick by tick, by the model that keeps every talk there ever was."""
        model, led, kept, got, most, ticks = FreePicker(form), 0, 0, 0, 0, 0
        for deed, answer in book:
            for _ in range(deed[1] if deed[0] == "wait" else 0):
                ticks += len([row for row in model.lends() if row[2] == house])
                model.deed(("wait", 1))
            if deed[0] != "wait":
                model.liked = answer[1] if isinstance(answer, tuple) else None
                self.assertEqual(model.deed(deed), answer)
            most = max(most, len([row for row in model.lends() if row[2] == house]))
            if deed[0] == "out" and deed[2] == house:
                led, kept = led + (answer[0] != "kept"), kept + (answer[0] == "kept")
            if isinstance(answer, tuple):
                last = answer[2] if answer[0] == "turned" else answer
                got += last[0] in ("in", "told") and last[1] == house
        return (led, kept, got, most, ticks)

    def test_a_beginning_of_a_book_gives_no_more(self):
        source = random.Random(2)
        for _ in range(30):
            form = some_form(source)
            book = row_of_deeds(source, form, 40)
            for house in range(3):
                before = (0, 0, 0, 0, 0)
                for many in range(len(book) + 1):
                    told = account(form, book[:many], house)
                    self.assertTrue(all([less <= more for less, more in zip(before, told)]))
                    before = told

    def test_a_long_book(self):
        form = (1, 200, "talk", "all", "keep", 200, True, (50, 20, 100, 30))
        gate = Gate(form)
        for at in range(1999):
            if at % 2:
                gate.wait(1)
            else:
                gate.out("note", 3, at + 1, 7, 80, "say", "")
        gate.wait(1000000)
        book = gate.book()
        self.assertEqual(len(book), 2000)
        # Each of the 1000 letters has a number for 50 ticks, and 50 are lent at a moment.
        self.assertEqual(account(form, book, 3), (1000, 0, 0, 50, 50000))
        self.assertEqual(account(form, book, 4), (0, 0, 0, 0, 0))


class Refusals(unittest.TestCase):
    def test_no_form(self):
        source = random.Random(3)
        things = STRANGE + NO_TUPLES + [anything(source) for _ in range(300)]
        things += [with_part(form_of(), source.randrange(8), anything(source)) for _ in range(1500)]
        for thing in things:
            if is_form(thing):
                self.assertEqual(account(thing, [], 3), (0, 0, 0, 0, 0))
            else:
                self.assertRaises(NoForm, account, thing, [], 3)
                self.assertRaises(NoForm, account, thing, [None], 3)

    def test_the_book_stays(self):
        book = replayed(form_of(), [out(), come(100), ("wait", 20), out(place=0, far=101)]).book()
        before = copy.deepcopy(book)
        first = account(form_of(), book, 3)
        self.assertEqual(book, before)
        self.assertEqual(account(form_of(), book, 3), first)


if __name__ == "__main__":
    unittest.main()
