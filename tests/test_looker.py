"""Books and the looker: replayed and looked (point 18)."""

import copy
import random
import unittest

from lentgate.errors import NoDeed, NoForm, NoRule
from lentgate.forms import is_form
from lentgate.gate import Gate
from lentgate.looker import looked, replayed
from test_model import Model, done, some_deed, some_form
from things import LOOKS, NO_TUPLES, STRANGE, anything, form_of, looks, with_part, without_part


class FreePicker(Model):
    """A gate that picks, where point 11 picks, any free number that it likes; else as the model does."""

    liked = None

    def picked(self, door):
        free = [number for number in range(self.low, self.high + 1) if self.is_free(number)]
        return [self.liked] if self.liked in free else free[:1]


def row_of_deeds(source, form, many):
    """The book of a gate that picks free numbers by chance."""
    gate = FreePicker(form)
    for _ in range(many):
        gate.liked = source.randrange(form[0], form[1] + 1)
        gate.deed(some_deed(source, form, gate))
    return gate.book()


def plainly_looked(form, book):
    """Point 18 word by word: all gates that could have the rows ahead are tried with every free number."""
    gates = [FreePicker(form)]
    for at, row in enumerate(book):
        deed, answer = row
        behind = []
        for gate in gates:
            for number in range(form[0], form[1] + 1):
                gate.liked = number
                tried = copy.deepcopy(gate)
                if tried.deed(deed) == answer:
                    behind.append(tried)
                    break
        if not behind:
            return at
        gates = behind
    return None


def out(place, house=3, door=40, far=80, kind="note", word="say"):
    return ("out", kind, house, door, place, far, word, "")


class LetBy(unittest.TestCase):
    def test_the_book_of_a_gate(self):
        source = random.Random(1)
        for pick in ("next", "keep"):
            for many in (1, 2, 4, 200):
                for _ in range(15):
                    form = with_part(with_part(some_form(source), 4, pick), 0, 300)
                    form = with_part(form, 1, 299 + many)
                    gate = Gate(form)
                    for _ in range(60):
                        done(gate, some_deed(source, form, gate))
                    self.assertIsNone(looked(form, gate.book()))

    def test_no_rows(self):
        self.assertIsNone(looked(form_of(), []))

    def test_the_book_of_a_gate_that_picks_otherwise(self):
        source, otherwise = random.Random(2), 0
        for _ in range(150):
            form = some_form(source)
            book = row_of_deeds(source, form, 60)
            self.assertIsNone(looked(form, book), form)
            otherwise += replayed(form, [deed for deed, _ in book]).book() != book
        self.assertGreater(otherwise, 50)

    def test_neither_the_next_one_nor_the_doors_own(self):
        for pick in ("next", "keep"):
            form = form_of(low=100, high=199, pick=pick)
            for number in (100, 101, 150, 151, 199):
                self.assertIsNone(looked(form, [(out(7, door=150), ("led", number))]))
                self.assertIsNone(looked(form, [(out(0, door=150), ("turned", number, ("kept", "nobody")))]))

    def test_each_time_anew(self):
        numbers = [103, 100, 102, 101]
        book = [(out(place), ("led", numbers[place - 1])) for place in (1, 2, 3, 4)]
        book += [(out(3), ("led", 102)), (out(5), ("kept", "most"))]
        self.assertIsNone(looked(form_of(), book))
        self.assertIsNone(looked(form_of(most=9), book[:-1] + [(out(5), ("kept", "full"))]))

    def test_a_long_book(self):
        form = (1, 200, "talk", "all", "keep", 200, True, (50, 20, 100, 30))
        gate = Gate(form)
        for at in range(2000):
            if at % 5 == 4:
                gate.wait(1)
            else:
                gate.out("note", at % 100, at % 9999 + 1, 7 + at % 3, 80, "say", "")
        book = gate.book()
        self.assertEqual(len(book), 2000)
        self.assertIsNone(looked(form, book))
        self.assertEqual(looked(form, book[:-1] + [(("wait", 1), 0)]), 1999)
        self.assertEqual(replayed(form, [deed for deed, _ in book]).book(), book)


class NotLetBy(unittest.TestCase):
    """What is told is the number of the first row that no such gate could have."""

    def check(self, at, book, **parts):
        self.assertEqual(looked(form_of(**parts), book), at)
        # Whatever stands behind that row, it stays the first one.
        self.assertEqual(looked(form_of(**parts), book[:at + 1] + [("wait", 5), None] + book), at)
        self.assertIsNone(looked(form_of(**parts), book[:at]))

    def test_a_number_that_is_taken(self):
        for pick in ("next", "keep"):
            self.check(1, [(out(1), ("led", 102)), (out(2), ("led", 102))], pick=pick)
            # A number of the other kind is as much taken.
            self.check(1, [(out(1), ("led", 102)), (out(1, kind="line", word="open"), ("led", 102))], pick=pick)

    def test_a_number_that_rests(self):
        for ticks, at in ((0, 3), (6, 3), (7, None)):
            book = [(out(1, kind="line", word="open"), ("led", 102)),
                    (out(1, kind="line", word="break"), ("led", 102)), (("wait", ticks), None), (out(2), ("led", 102))]
            self.assertEqual(looked(form_of(), book), at)
        for ticks, at in ((9, 2), (10, 2), (16, 2), (17, None)):
            book = [(out(1), ("led", 102)), (("wait", ticks), None), (out(2), ("led", 102))]
            self.assertEqual(looked(form_of(), book), at)

    def test_a_number_beyond_the_pool(self):
        for number in (99, 104, 1, 0, -1, 9999, 10 ** 59):
            for pick in ("next", "keep"):
                self.check(0, [(out(1, door=104), ("led", number))], pick=pick)

    def test_full_where_a_number_is_free(self):
        self.check(1, [(out(1), ("led", 102)), (out(2), ("kept", "full"))])
        self.check(1, [(out(1), ("led", 100)), (out(2), ("kept", "full"))], high=101)
        self.check(2, [(out(1), ("led", 100)), (("wait", 17), None), (out(2), ("kept", "full"))], high=100)

    def test_a_number_where_none_is_free(self):
        for number in (99, 100, 101, 40):
            self.check(1, [(out(1), ("led", 100)), (out(2), ("led", number))], high=100)
            self.check(2, [(out(1), ("led", 100)), (("wait", 16), None), (out(2), ("led", number))], high=100)

    def test_full_and_most_are_two(self):
        self.check(1, [(out(1), ("led", 100)), (out(2), ("kept", "most"))], high=100)
        self.check(1, [(out(1), ("led", 100)), (out(2), ("kept", "full"))], high=100, most=1)
        self.check(1, [(out(1), ("led", 100)), (out(2), ("led", 101))], most=1)

    def test_another_number_than_the_holder_has(self):
        for lending, second in (("door", out(9)), ("place", out(1, far=81)), ("talk", out(1))):
            self.check(1, [(out(1), ("led", 102)), (second, ("led", 103))], lending=lending)
            self.check(1, [(out(1), ("led", 102)), (second, ("led", 100))], lending=lending)
            self.assertIsNone(looked(form_of(lending=lending), [(out(1), ("led", 102)), (second, ("led", 102))]))

    def test_another_number_than_that_of_a_rules_talk(self):
        book = [(("rule", "note", 9, None, 3, 40), 0), (("come", "note", 1, 80, 9, "say", ""), ("in", 3, 40))]
        self.check(2, book + [(out(1), ("led", 102))])
        self.assertIsNone(looked(form_of(), book + [(out(1), ("led", 9))]))

    def every_answer(self):
        """A book with every kind of answer that there is."""
        line = {"kind": "line", "word": "open"}
        return [
            (("rule", "note", 9, 0, 4, 41), 0),
            (("rule", "line", 9, 7, 3, 40), 1),
            (out(7), ("led", 101)),
            (out(7, **line), ("led", 103)),
            (out(7, kind="line", word="say"), ("kept", "astray")),
            (("come", "note", 7, 80, 101, "say", ""), ("in", 3, 40)),
            (("come", "note", 7, 81, 101, "say", ""), ("kept", "sieve")),
            (("come", "line", 7, 80, 9, "open", ""), ("kept", "clash")),
            (("lost", 5, "note", 101, 7, 80), ("told", 3, 40)),
            (("lost", 5, "note", 101, 7, 81), ("kept", "nobody")),
            (out(0, house=5, far=9), ("turned", 100, ("in", 4, 41))),
            (out(0, house=5, far=10), ("turned", 102, ("kept", "nobody"))),
            (out(0, house=5, far=11), ("kept", "most")),
            (out(0, house=6, far=11), ("kept", "full")),
            (("unrule", 1), None),
            (("wait", 0), None),
        ]

    def wrong_answers(self, answer):
        others = [None, 0, 1, 2, 4, 42, 103, 104, "", "kept", "led", "in", "told", "turned", "full", "sieve", "ok",
                  (), (3,), [], [3], ("in", 4, 41), ("kept", "nobody"), ["in", 4, 41], ["kept", "nobody"]]
        wrong = others + [[answer], (answer,)]
        if isinstance(answer, tuple):
            wrong += [list(answer)] + [answer + (other,) for other in others]
            wrong += [without_part(answer, part) for part in range(len(answer))]
            wrong += [with_part(answer, part, other) for part in range(len(answer)) for other in others]
            if answer[0] == "turned":
                wrong += [with_part(answer, 2, inner) for inner in self.wrong_answers(answer[2])]
        return [told for told in wrong if told != answer]

    def is_other_pick(self, answer, told):
        """Whether they are alike but for the number picked, which may be any free one."""
        if not isinstance(answer, tuple) or answer[0] not in ("led", "turned"):
            return False
        alike = isinstance(told, tuple) and len(told) == len(answer)
        return alike and (told[:1], told[2:]) == (answer[:1], answer[2:])

    def test_an_answer_that_is_otherwise_in_one_part(self):
        book, many = self.every_answer(), 0
        self.assertIsNone(looked(form_of(most=2), book))
        for at, (deed, answer) in enumerate(book):
            for told in self.wrong_answers(answer):
                if not self.is_other_pick(answer, told):
                    many += 1
                    self.assertEqual(looked(form_of(most=2), book[:at] + [(deed, told)] + book[at + 1:]), at, told)
        self.assertGreater(many, 1000)

    def test_a_truth_is_no_number(self):
        self.check(1, [(("rule", "note", 9, None, 3, 40), 0), (("rule", "note", 9, None, 3, 40), True)])
        self.check(0, [(("rule", "note", 9, None, 3, 40), False)])
        self.check(0, [(out(1), ("led", True))], low=1, high=1)
        self.check(0, [(("wait", True), None)])

    def test_a_row_that_is_none(self):
        good = (("wait", 5), None)
        rows = NO_TUPLES + [
            list(good), good + (None,), good[:1], (), ("wait", 5), (["wait", 5], None), (("wait", 5, 5), None),
            (("wait", -1), None), (("stay", 5), None), (None, None), (None, ("wait", 5)), (good, None),
            (out(-1), ("kept", "nobody")), (with_part(out(1), 1, "letter"), ("led", 100))]
        for row in rows:
            self.check(2, [good, good, row])

    def test_a_deed_that_is_refused(self):
        for number in (100, 101, 103):
            for answer in (0, None, ("kept", "nobody")):
                self.check(1, [(("wait", 5), None), (("rule", "note", number, None, 3, 40), answer)])
        for book in ([], [(("rule", "note", 9, None, 3, 40), 0)]):
            for answer in (None, 0, 1):
                self.check(len(book), book + [(("unrule", 1), answer)])
        twice = [(("rule", "note", 9, None, 3, 40), 0), (("unrule", 0), None), (("unrule", 0), None)]
        self.check(2, twice)

    def test_a_rule_has_its_number(self):
        told = [(("rule", "note", 9, None, 3, 40), 0), (("unrule", 0), None)]
        self.check(2, told + [(("rule", "note", 9, None, 3, 40), 0)])
        self.assertIsNone(looked(form_of(), told + [(("rule", "note", 9, None, 3, 40), 1)]))


class AgainstPlainLooking(unittest.TestCase):
    def changed(self, source, book):
        """The book with an answer or a deed that stands elsewhere in it, or with a number made another one."""
        at, other = source.randrange(len(book)), source.randrange(len(book))
        deed, answer = book[at]
        sort = source.randrange(4)
        if sort == 0:
            row = (deed, book[other][1])
        elif sort == 1:
            row = (book[other][0], answer)
        elif sort == 2 and isinstance(answer, tuple) and answer[0] in ("led", "turned"):
            row = (deed, with_part(answer, 1, answer[1] + source.choice([-2, -1, 1, 2])))
        elif sort == 3:
            return book[:at] + book[at + 1:]
        else:
            row = book[other]
        return book[:at] + [row] + book[at + 1:]

    def test_changed_books(self):
        source, found = random.Random(5), []
        for _ in range(120):
            form = some_form(source)
            book = row_of_deeds(source, form, 40)
            for _ in range(4):
                wrong = self.changed(source, book)
                found.append(looked(form, wrong))
                self.assertEqual(found[-1], plainly_looked(form, wrong), form)
        self.assertGreater(len([at for at in found if at is None]), 30)
        self.assertGreater(len([at for at in found if at is not None]), 200)

    def test_books_of_another_form(self):
        source, let_by = random.Random(6), 0
        for _ in range(150):
            form = some_form(source)
            book = row_of_deeds(source, form, 12)
            at = source.randrange(8)
            other = with_part(form, at, some_form(source)[at])
            if is_form(other):
                found = looked(other, book)
                self.assertEqual(found, plainly_looked(other, book), (form, other))
                let_by += found is None
        self.assertGreater(let_by, 20)


class AnyBook(unittest.TestCase):
    def test_books_of_anything(self):
        source = random.Random(8)
        deeds = [("wait", 5), out(1), out(0), ("come", "note", 7, 80, 100, "say", ""), ("unrule", 0)]
        for _ in range(4000):
            book = [anything(source) for _ in range(source.randrange(1, 4))]
            if source.random() < 0.6:
                book[0] = (source.choice(deeds), book[0])
            if source.random() < 0.2:
                book[0] = (source.choice(deeds), (source.choice(["led", "turned"]), book[0], book[-1]))
            self.assertIn(looked(form_of(), book), [None] + list(range(len(book))))

    def test_things_as_answers(self):
        for thing in STRANGE + NO_TUPLES:
            self.assertEqual(looked(form_of(), [(out(1), thing)]), 0)
            self.assertEqual(looked(form_of(), [(out(1), ("led", thing))]), 0)
            self.assertEqual(looked(form_of(), [(out(1), (thing, 100))]), 0)
            self.assertEqual(looked(form_of(), [(out(0), ("turned", 100, thing))]), 0)
            self.assertEqual(looked(form_of(), [(("wait", 5), thing)]), None if thing is None else 0)

    def test_nothing_handed_in_is_changed(self):
        inner = ["in", 3, 40]
        for book in ([(out(0, far=100), ("turned", 100, inner))], [[out(1), ["led", 100]]], [(out(1), ("led", 100))]):
            before = copy.deepcopy(book)
            looked(form_of(), book)
            self.assertEqual(book, before)

    def test_looked_keeps_nothing(self):
        form, book = form_of(high=100), [(out(1), ("led", 100)), (out(2), ("kept", "full"))]
        for _ in range(3):
            self.assertIsNone(looked(form, book))
            self.assertEqual(looked(form, book[1:]), 0)


class Replayed(unittest.TestCase):
    def test_as_a_gate_told_the_same(self):
        source = random.Random(9)
        for _ in range(60):
            form = some_form(source)
            gate = Gate(form)
            for _ in range(40):
                done(gate, some_deed(source, form, gate))
            again = replayed(form, [deed for deed, _ in gate.book()])
            self.assertIsInstance(again, Gate)
            self.assertEqual(looks(again), looks(gate))
            for _ in range(20):
                deed = some_deed(source, form, gate)
                self.assertEqual(done(again, deed), done(gate, deed))
                self.assertEqual(looks(again), looks(gate))

    def test_no_deeds(self):
        self.assertEqual(looks(replayed(form_of(), [])), looks(Gate(form_of())))

    def test_refusals(self):
        self.assertRaises(NoDeed, replayed, form_of(), [("wait", 5), ("wait", True)])
        self.assertRaises(NoDeed, replayed, form_of(), [("wait", -1), ("unrule", 0)])
        self.assertRaises(NoRule, replayed, form_of(), [("unrule", 0), ("wait", -1)])
        self.assertRaises(NoRule, replayed, form_of(), [("wait", 5), ("rule", "note", 100, None, 3, 40)])
        for thing in STRANGE + NO_TUPLES:
            self.assertRaises(NoDeed, replayed, form_of(), [thing])

    def test_no_form_ahead_of_all_else(self):
        for deeds in ([], [("wait", 5)], [("wait", -1)], [("unrule", 0)]):
            for form in STRANGE + [form_of(most=0), list(form_of())]:
                self.assertRaises(NoForm, replayed, form, deeds)

    def test_no_form_for_the_looker(self):
        source = random.Random(10)
        things = STRANGE + NO_TUPLES + [form_of(most=0), list(form_of()), form_of(times=[1, 1, 1, 1])]
        things += [anything(source) for _ in range(500)]
        things += [with_part(form_of(), source.randrange(8), anything(source)) for _ in range(1500)]
        for thing in things:
            for book in ([], [None]):
                if is_form(thing):
                    self.assertEqual(looked(thing, book), 0 if book else None)
                else:
                    self.assertRaises(NoForm, looked, thing, book)

    def test_nothing_is_shared(self):
        deeds = [out(1), ("wait", 5), out(2)]
        gate = replayed(form_of(), deeds)
        told = looks(gate)
        deeds.append(("wait", 100))
        deeds[0] = None
        self.assertEqual(looks(gate), told)
        for name in LOOKS[2:]:
            getattr(gate, name)().append("x")
        self.assertEqual(looks(gate), told)


if __name__ == "__main__":
    unittest.main()
