"""The desk: rows of text told to a gate (point 23)."""

import random
import unittest

from lentgate.desk import Desk
from lentgate.errors import NoForm, NoRow, NoRule
from lentgate.forms import is_form
from lentgate.gate import Gate
from lentgate.texts import show_deed
from test_model import some_deed, some_form
from things import NO_TUPLES, STRANGE, anything, form_of, with_part

ROWS = ("moment", "free", "lends", "talks", "rests", "rules")


def said(desk):
    """All that a desk tells of its gate."""
    return {row: desk.say(row) for row in ROWS}


def busy_desk(**parts):
    desk = Desk(form_of(**parts))
    for row in ("rule line 9 any 4 41", "rule note 8 0 5 50", "out line 1 20 7 80 open :",
                "out line 1 20 7 80 break :", "out note 3 40 7 80 say :a", "out note 3 40 7 9 say :b", "wait 2"):
        desk.say(row)
    return desk


class Deeds(unittest.TestCase):
    def test_each_kind_of_deed_and_answer(self):
        desk = Desk(form_of(sieve="place", lending="place", high=101))
        for row, answer in (
                ("rule note 9 any 4 41", "rule 0"),
                ("rule line 9 7 4 41", "rule 1"),
                ("out note 3 40 7 80 say :how are you", "led 100"),
                ("come note 7 80 100 say :well", "in 3 40"),
                ("come note 6 80 100 say :well", "kept sieve"),
                ("come note 6 80 101 say :", "kept nobody"),
                ("lost 5 note 100 7 80", "told 3 40"),
                ("lost 5 note 100 7 81", "kept nobody"),
                ("out line 4 41 7 80 open :", "led 101"),
                ("out line 4 41 7 80 say :", "kept astray"),
                ("come line 7 80 9 open :", "kept clash"),
                ("come line 7 81 9 close :", "kept astray"),
                ("out note 3 41 7 80 say :", "kept full"),
                ("out note 3 40 7 9 say :", "led 100"),
                ("wait 10", "ok"),
                ("unrule 1", "ok"),
                ("wait 1000", "ok"),
                ("out note 3 40 0 9 say :", "turned 100 in 4 41"),
                ("out note 3 40 0 77 say :", "turned 100 kept nobody"),
                ("rule note 9 any 4 41", "rule 2")):
            self.assertEqual(desk.say(row), answer, row)

    def test_kept_by_most(self):
        desk = Desk(form_of(most=1))
        self.assertEqual(desk.say("out note 3 40 7 80 say :"), "led 100")
        self.assertEqual(desk.say("out note 3 41 7 80 say :"), "kept most")


class Looks(unittest.TestCase):
    def test_a_new_desk(self):
        self.assertEqual(said(Desk(form_of())), {
            "moment": "0", "free": "4", "lends": "none", "talks": "none", "rests": "none", "rules": "none"})

    def test_of_several(self):
        self.assertEqual(said(busy_desk()), {
            "moment": "2", "free": "1", "lends": "101 note 3 40 7 80; 102 note 3 40 7 9",
            "talks": "note 101 3 40 7 80 note 10; note 102 3 40 7 9 note 10", "rests": "100 7",
            "rules": "0 line 9 any 4 41; 1 note 8 0 5 50"})

    def test_none_as_any_within_rows(self):
        self.assertEqual(busy_desk(lending="door").say("lends"), "101 note 3 40 any any")
        self.assertEqual(busy_desk(lending="place").say("lends"), "101 note 3 40 7 any")

    def test_of_one(self):
        desk = Desk(form_of())
        desk.say("out line 0 1 1000000 9999 open :")
        self.assertEqual(desk.say("lends"), "100 line 0 1 1000000 9999")
        self.assertEqual(desk.say("talks"), "line 100 0 1 1000000 9999 asked 5")
        desk.say("out line 0 1 1000000 9999 break :")
        self.assertEqual((desk.say("lends"), desk.say("talks"), desk.say("rests")), ("none", "none", "100 7"))


class Refusals(unittest.TestCase):
    def test_rows_that_are_none(self):
        desk = busy_desk()
        before = said(desk)
        rows = ["", " ", "\n", "none", "ok", "any", "book", "Moment", "MOMENT", "look", "rule", "wait", "unrule", "a" * 400]
        for row in ROWS:
            rows += [row + " ", " " + row, row + "\n", "\n" + row, row.upper(), row.capitalize(), row + " 0", row + " any",
                     row + ";", row[:-1], row + "s", row + " " + row, row + " :", row + ":", "look " + row, row + "()"]
        rows += ["wait -1", "wait 05", "wait 5 ", " wait 5", "wait  5", "Wait 5", "wait 1000001", "wait any", "unrule 01",
                 "rule note 100 any 4 41 ", "rule note 100 any 4", "unrule 7 ", "unrule any", "out note 3 40 7 80 say",
                 "out note 3 40 7 80 say :%", "out note 3 40 7 80 say :" + "a" * 41, "wait 5; wait 5", "wait 5\nwait 5"]
        for row in rows:
            with self.assertRaises(NoRow, msg=row):
                desk.say(row)
            self.assertEqual(said(desk), before)

    def test_what_is_no_text(self):
        desk = busy_desk()
        before = said(desk)
        for thing in STRANGE + NO_TUPLES + [("wait", 5), ["moment"], ("moment",)]:
            if not isinstance(thing, str):
                self.assertRaises(NoRow, desk.say, thing)
        self.assertEqual(said(desk), before)

    def test_no_rule(self):
        desk = busy_desk()
        before = said(desk)
        for row in ("rule note 100 any 4 41", "rule line 103 0 4 41", "rule note 101 7 3 40", "unrule 2", "unrule 1000000"):
            with self.assertRaises(NoRule, msg=row):
                desk.say(row)
            self.assertEqual(said(desk), before)
        desk.say("unrule 0")
        self.assertRaises(NoRule, desk.say, "unrule 0")
        # What was refused has no number.
        self.assertEqual(desk.say("rule note 99 any 4 41"), "rule 2")

    def test_no_form(self):
        source = random.Random(1)
        things = STRANGE + NO_TUPLES + [anything(source) for _ in range(300)]
        things += [with_part(form_of(), source.randrange(8), anything(source)) for _ in range(1000)]
        for thing in things:
            if is_form(thing):
                self.assertEqual(Desk(thing).say("moment"), "0")
            else:
                self.assertRaises(NoForm, Desk, thing)


class ManyRows(unittest.TestCase):
    def written(self, thing):
        """A told thing as the desk writes it."""
        if isinstance(thing, list):
            rows = [" ".join(["any" if part is None else str(part) for part in row]) for row in thing]
            return "; ".join(rows) if rows else "none"
        return str(thing)

    def answer_text(self, answer):
        if isinstance(answer, int):
            return f"rule {answer}"
        return "ok" if answer is None else " ".join(flat(answer))

    def go_on(self, source, desk, gate):
        deed = some_deed(source, gate.form, gate)
        try:
            expected = self.answer_text(gate.deed(deed))
        except NoRule:
            self.assertRaises(NoRule, desk.say, show_deed(deed))
        else:
            self.assertEqual(desk.say(show_deed(deed)), expected)
        self.assertEqual(said(desk), {row: self.written(getattr(gate, row)()) for row in ROWS})

    def test_as_a_gate_told_the_same(self):
        source = random.Random(2)
        for _ in range(60):
            form = some_form(source)
            desk, gate = Desk(form), Gate(form)
            for _ in range(60):
                self.go_on(source, desk, gate)

    def test_two_desks_by_turns(self):
        source = random.Random(3)
        pairs = [(Desk(form), Gate(form)) for form in (some_form(source), some_form(source))]
        pairs.append((Desk(pairs[0][1].form), Gate(pairs[0][1].form)))
        for _ in range(80):
            for desk, gate in pairs:
                self.go_on(source, desk, gate)


def flat(answer):
    """The parts of an answer, with those of an answer within it."""
    parts = []
    for part in answer:
        parts += flat(part) if isinstance(part, tuple) else [str(part)]
    return parts


if __name__ == "__main__":
    unittest.main()
