"""What each side sees of a book: got, went and plain_rows (points 3 and 19)."""

import copy
import random
import unittest

from lentgate.gate import Gate
from lentgate.looker import looked, replayed
from lentgate.views import got, plain_rows, went
from test_model import done, some_deed, some_form
from things import form_of

FORM = form_of(sieve="place", lending="place", most=9, high=109)

# Every kind of deed, and every kind of answer.
BOOK = [
    (("rule", "note", 9, None, 4, 41), 0),
    (("rule", "line", 8, 7, 4, 42), 1),
    (("out", "note", 3, 40, 7, 80, "say", "how are you"), ("led", 100)),
    (("out", "line", 3, 40, 7, 80, "open", ""), ("led", 101)),
    (("out", "line", 3, 40, 7, 80, "say", "too early"), ("kept", "astray")),
    (("come", "note", 7, 80, 100, "say", "well"), ("in", 3, 40)),
    (("come", "note", 7, 81, 100, "say", "a neighbour"), ("in", 3, 40)),
    (("come", "note", 6, 80, 100, "say", "a stranger"), ("kept", "sieve")),
    (("come", "line", 7, 80, 101, "open", "x"), ("in", 3, 40)),
    (("come", "line", 7, 80, 101, "say", "y"), ("in", 3, 40)),
    (("come", "line", 7, 80, 101, "open", "z"), ("kept", "astray")),
    (("come", "note", 7, 80, 105, "say", ""), ("kept", "nobody")),
    (("come", "line", 7, 5, 8, "open", "by the rule"), ("in", 4, 42)),
    (("come", "note", 5, 5, 9, "say", "by the other"), ("in", 4, 41)),
    (("out", "line", 4, 42, 7, 5, "open", "by its number"), ("led", 8)),
    (("lost", 99, "note", 100, 7, 80), ("told", 3, 40)),
    (("lost", 99, "note", 100, 7, 82), ("kept", "nobody")),
    (("lost", 98, "line", 8, 7, 5), ("told", 4, 42)),
    (("out", "note", 5, 50, 0, 9, "say", "to the rule"), ("turned", 102, ("in", 4, 41))),
    (("out", "note", 4, 41, 0, 102, "say", "and back"), ("turned", 9, ("in", 5, 50))),
    (("out", "note", 5, 50, 0, 100, "say", "to a number"), ("turned", 102, ("kept", "sieve"))),
    (("out", "note", 5, 50, 0, 77, "say", "to nobody"), ("turned", 102, ("kept", "nobody"))),
    (("out", "note", 5, 50, 0, 102, "say", "to itself"), ("turned", 102, ("in", 5, 50))),
    (("wait", 2), None),
    (("unrule", 0), None),
    (("out", "note", 0, 50, 1, 1, "say", "~ !"), ("led", 103)),
    (("come", "note", 1, 1, 103, "say", ""), ("in", 0, 50)),
    (("wait", 1000), None),
    (("come", "note", 1, 1, 103, "say", ""), ("kept", "nobody")),
    (("out", "note", 5, 50, 1000000, 9999, "say", ""), ("led", 104)),
]

GOT = {
    0: [("got", "note", 50, 1, 1, "say", "")],
    3: [
        ("got", "note", 40, 7, 80, "say", "well"), ("got", "note", 40, 7, 81, "say", "a neighbour"),
        ("got", "line", 40, 7, 80, "open", "x"), ("got", "line", 40, 7, 80, "say", "y"),
        ("lost", "note", 40, 7, 80, 99)],
    4: [
        ("got", "line", 42, 7, 5, "open", "by the rule"), ("got", "note", 41, 5, 5, "say", "by the other"),
        ("lost", "line", 42, 7, 5, 98), ("got", "note", 41, 0, 102, "say", "to the rule")],
    5: [("got", "note", 50, 0, 9, "say", "and back"), ("got", "note", 50, 0, 102, "say", "to itself")],
}

WENT = [
    ("note", 100, 7, 80, "say", "how are you"), ("line", 101, 7, 80, "open", ""),
    ("line", 8, 7, 5, "open", "by its number"), ("note", 103, 1, 1, "say", "~ !"),
    ("note", 104, 1000000, 9999, "say", "")]

PLAIN = [
    ("to", "note", 3, 40, 7, 80, "say", "how are you"), ("to", "line", 3, 40, 7, 80, "open", ""),
    ("from", "note", 3, 40, 7, 80, "say", "well"), ("from", "note", 3, 40, 7, 81, "say", "a neighbour"),
    ("from", "line", 3, 40, 7, 80, "open", "x"), ("from", "line", 3, 40, 7, 80, "say", "y"),
    ("from", "line", 4, 42, 7, 5, "open", "by the rule"), ("from", "note", 4, 41, 5, 5, "say", "by the other"),
    ("to", "line", 4, 42, 7, 5, "open", "by its number"),
    ("to", "note", 0, 50, 1, 1, "say", "~ !"), ("from", "note", 0, 50, 1, 1, "say", ""),
    ("to", "note", 5, 50, 1000000, 9999, "say", "")]


def some_book(source, form, many=60):
    gate = Gate(form)
    for _ in range(many):
        done(gate, some_deed(source, form, gate))
    return gate.book()


class Views(unittest.TestCase):
    def test_the_book_is_let_by(self):
        self.assertIsNone(looked(FORM, BOOK))

    def test_got(self):
        for house in range(100):
            self.assertEqual(got(BOOK, house), GOT.get(house, []), house)

    def test_went(self):
        self.assertEqual(went(BOOK), WENT)

    def test_plain_rows(self):
        self.assertEqual(plain_rows(BOOK), PLAIN)

    def test_no_rows(self):
        self.assertEqual((got([], 0), went([]), plain_rows([])), ([], [], []))

    def test_each_beginning_of_a_book(self):
        """The order is the book's: a longer beginning only adds behind what was told."""
        for many in range(len(BOOK)):
            for view, whole in ((went, WENT), (plain_rows, PLAIN), (lambda book: got(book, 4), GOT[4])):
                told = view(BOOK[:many])
                self.assertEqual(told, whole[:len(told)])
                self.assertLessEqual(len(view(BOOK[:many + 1])) - len(told), 1)

    def test_letters_kept_are_seen_by_nobody(self):
        book = [
            (("out", "line", 3, 40, 7, 80, "say", ""), ("kept", "astray")),
            (("out", "note", 3, 40, 7, 80, "say", ""), ("kept", "most")),
            (("out", "note", 3, 40, 0, 80, "say", ""), ("kept", "full")),
            (("come", "note", 7, 80, 9, "say", ""), ("kept", "clash"))]
        self.assertEqual((got(book, 3), went(book), plain_rows(book)), ([], [], []))

    def test_a_line_told_as_lost_and_house_99(self):
        book = [(("out", "line", 99, 1, 1000000, 9999, "open", ""), ("led", 100)),
                (("lost", 1000000, "line", 100, 1000000, 9999), ("told", 99, 1))]
        self.assertEqual(got(book, 99), [("lost", "line", 1, 1000000, 9999, 1000000)])
        self.assertEqual(got(book, 0), [])


class ManyBooks(unittest.TestCase):
    def test_each_row_is_seen_by_whom_it_concerns(self):
        """Row by row: what one row alone shows, added up, is what the book shows."""
        source = random.Random(1)
        for _ in range(80):
            book = some_book(source, some_form(source))
            houses = {house: [] for house in range(4)}
            sent, plain = [], []
            for deed, answer in book:
                if not isinstance(answer, tuple):
                    continue
                parts = dict(zip({
                    "out": ("kind", "house", "door", "place", "far", "word", "text"),
                    "come": ("kind", "place", "far", "number", "word", "text"),
                    "lost": ("teller", "kind", "number", "place", "far"),
                }[deed[0]], deed[1:]))
                if deed[0] == "out" and answer[0] == "turned":
                    parts = {**parts, "place": 0, "far": answer[1]}
                    answer = answer[2]
                elif deed[0] == "out" and answer[0] == "led":
                    sent.append((deed[1], answer[1]) + deed[4:])
                    plain.append(("to",) + deed[1:])
                if answer[0] == "in":
                    letter = tuple([parts[name] for name in ("place", "far", "word", "text")])
                    houses[answer[1]].append(("got", parts["kind"], answer[2]) + letter)
                    if deed[0] == "come":
                        plain.append(("from", parts["kind"]) + answer[1:] + letter)
                if answer[0] == "told":
                    ends = (parts["place"], parts["far"], parts["teller"])
                    houses[answer[1]].append(("lost", parts["kind"], answer[2]) + ends)
            self.assertEqual({house: got(book, house) for house in range(4)}, houses)
            self.assertEqual(went(book), sent)
            self.assertEqual(plain_rows(book), plain)

    def test_by_plain_rows_a_house_gets_what_came_for_it(self):
        source = random.Random(2)
        for _ in range(60):
            book = some_book(source, some_form(source))
            for house in range(4):
                letters = [row for row in got(book, house) if row[0] == "got" and row[3] > 0]
                plain = [row for row in plain_rows(book) if row[0] == "from" and row[2] == house]
                self.assertEqual([row[1:] for row in letters], [(row[1],) + row[3:] for row in plain])

    def test_what_goes_out_tells_nothing_of_the_houses(self):
        source, seen = random.Random(3), 0
        for _ in range(120):
            form = some_form(source)
            book = some_book(source, form)
            houses, doors = list(range(100)), list(range(10000))
            source.shuffle(houses)
            if form[4] == "next":
                doors[1:] = source.sample(doors[1:], 9999)
            exchanged = replayed(form, [with_others(deed, houses, doors) for deed, _ in book]).book()
            self.assertEqual(went(exchanged), went(book))
            seen += len(went(book))
            for house in range(4):
                self.assertEqual(got(exchanged, houses[house]), [
                    row[:2] + (doors[row[2]],) + row[3:] for row in got(book, house)])
        self.assertGreater(seen, 500)


def with_others(deed, houses, doors):
    """The deed with its house and door exchanged."""
    if deed[0] == "out":
        return deed[:2] + (houses[deed[2]], doors[deed[3]]) + deed[4:]
    if deed[0] == "rule":
        return deed[:4] + (houses[deed[4]], doors[deed[5]])
    return deed


class NothingShared(unittest.TestCase):
    def test_the_book_stays_and_what_is_told_is_the_askers_own(self):
        book = copy.deepcopy(BOOK)
        for view, told in ((lambda: got(book, 4), GOT[4]), (lambda: went(book), WENT),
                           (lambda: plain_rows(book), PLAIN)):
            first = view()
            first.reverse()
            first.append("x")
            self.assertEqual(view(), told)
            self.assertEqual(book, BOOK)


if __name__ == "__main__":
    unittest.main()
