"""Deeds and answers as texts (point 22)."""

import random
import re
import unittest

from lentgate.ends import is_deed
from lentgate.errors import NoRow
from lentgate.gate import Gate
from lentgate.texts import read_deed, show_answer, show_deed
from test_model import done, some_deed, some_form

ALL_SIGNS = "".join([chr(at) for at in range(32, 127) if at != 37])

# A text and the deed that it writes: each kind of deed, at the bounds of its parts.
WRITTEN = [
    ("out note 3 40 7 80 say :how are you", ("out", "note", 3, 40, 7, 80, "say", "how are you")),
    ("out note 0 1 0 1 say :", ("out", "note", 0, 1, 0, 1, "say", "")),
    ("out line 99 9999 1000000 9999 break :x", ("out", "line", 99, 9999, 1000000, 9999, "break", "x")),
    ("out line 10 100 1000 1000 open :open", ("out", "line", 10, 100, 1000, 1000, "open", "open")),
    ("out line 10 10 10 10 close :any", ("out", "line", 10, 10, 10, 10, "close", "any")),
    ("out line 10 10 10 10 say : ", ("out", "line", 10, 10, 10, 10, "say", " ")),
    ("come note 1 1 1 say :", ("come", "note", 1, 1, 1, "say", "")),
    ("come line 1000000 9999 9999 open : a  b ", ("come", "line", 1000000, 9999, 9999, "open", " a  b ")),
    ("come line 7 80 100 say ::", ("come", "line", 7, 80, 100, "say", ":")),
    ("come line 7 80 100 close : : :", ("come", "line", 7, 80, 100, "close", " : :")),
    ("come line 7 80 100 break :007", ("come", "line", 7, 80, 100, "break", "007")),
    ("lost 1 note 1 1 1", ("lost", 1, "note", 1, 1, 1)),
    ("lost 1000000 line 9999 1000000 9999", ("lost", 1000000, "line", 9999, 1000000, 9999)),
    ("wait 0", ("wait", 0)),
    ("wait 1000000", ("wait", 1000000)),
    ("rule note 9 any 4 41", ("rule", "note", 9, None, 4, 41)),
    ("rule line 1 0 0 1", ("rule", "line", 1, 0, 0, 1)),
    ("rule line 9999 1000000 99 9999", ("rule", "line", 9999, 1000000, 99, 9999)),
    ("unrule 0", ("unrule", 0)),
    ("unrule 1000000", ("unrule", 1000000)),
    ("out note 3 40 7 80 say :" + " " * 40, ("out", "note", 3, 40, 7, 80, "say", " " * 40)),
    ("out note 3 40 7 80 say :" + ":" * 40, ("out", "note", 3, 40, 7, 80, "say", ":" * 40)),
    ("out note 3 40 7 80 say :" + " :" * 20, ("out", "note", 3, 40, 7, 80, "say", " :" * 20)),
    ("come note 7 80 100 say :" + ALL_SIGNS[:40], ("come", "note", 7, 80, 100, "say", ALL_SIGNS[:40])),
    ("come note 7 80 100 say :" + ALL_SIGNS[40:80], ("come", "note", 7, 80, 100, "say", ALL_SIGNS[40:80])),
    ("come note 7 80 100 say :" + ALL_SIGNS[-40:], ("come", "note", 7, 80, 100, "say", ALL_SIGNS[-40:])),
]

NUMBER = "(0|[1-9][0-9]*)"
LETTER = "([a-z]+) :([ -$&-~]{0,40})"
SHAPES = {
    "out": f"out ([a-z]+) {NUMBER} {NUMBER} {NUMBER} {NUMBER} {LETTER}",
    "come": f"come ([a-z]+) {NUMBER} {NUMBER} {NUMBER} {LETTER}",
    "lost": f"lost {NUMBER} ([a-z]+) {NUMBER} {NUMBER} {NUMBER}",
    "wait": f"wait {NUMBER}",
    "rule": f"rule ([a-z]+) {NUMBER} (any|{NUMBER[1:-1]}) {NUMBER} {NUMBER}",
    "unrule": f"unrule {NUMBER}",
}
# Of each deed the places of its parts that are no number, counted behind the name.
NO_NUMBERS = {"out": (0, 5, 6), "come": (0, 4, 5), "lost": (1,), "wait": (), "rule": (0,), "unrule": ()}


def plainly_read(text):
    """The deed that the text writes by the shapes of point 22, or None."""
    for name, shape in SHAPES.items():
        found = re.fullmatch(shape, text)
        if found:
            parts = [part if at in NO_NUMBERS[name] else None if part == "any" else int(part)
                     for at, part in enumerate(found.groups())]
            deed = (name,) + tuple(parts)
            return deed if is_deed(deed) else None
    return None


class Written(unittest.TestCase):
    def test_each_kind_of_deed(self):
        for text, deed in WRITTEN:
            self.assertEqual(show_deed(deed), text)
            self.assertEqual(read_deed(text), deed)
            self.assertTrue(is_deed(read_deed(text)))

    def test_any_is_the_place_of_a_rule_alone(self):
        for text, deed in WRITTEN:
            words = text.split(" ")
            head = len(words) if " :" not in text else text[:text.index(" :")].count(" ") + 1
            for at in range(head):
                changed = " ".join(words[:at] + ["any"] + words[at + 1:])
                if deed[0] == "rule" and at == 3:
                    self.assertEqual(read_deed(changed), deed[:3] + (None,) + deed[4:])
                else:
                    self.assertRaises(NoRow, read_deed, changed)

    def test_the_deeds_of_many_books(self):
        source = random.Random(1)
        for _ in range(60):
            form = some_form(source)
            gate = Gate(form)
            for _ in range(40):
                deed = some_deed(source, form, gate)
                done(gate, deed)
                self.assertEqual(read_deed(show_deed(deed)), deed)
                self.assertEqual(plainly_read(show_deed(deed)), deed)


class NoRows(unittest.TestCase):
    def refused(self, *texts):
        for text in texts:
            self.assertIsNone(plainly_read(text), text)
            with self.assertRaises(NoRow, msg=text):
                read_deed(text)

    def words(self):
        """Each written deed, in the words ahead of its colon, and the text behind them."""
        for text, _ in WRITTEN:
            head, colon, tail = text.partition(" :")
            yield head.split(" "), colon + tail

    def test_numbers_written_otherwise(self):
        for words, tail in self.words():
            for at, word in enumerate(words):
                if word.isdigit():
                    for wrong in ("0" + word, "00" + word, "+" + word, "-" + word, word + ".0", word + "_0", "1_0",
                                  "0x1", "1e1", "", "-1", "--1", "00", "one", word + "a", "a" + word, "\n" + word,
                                  word + "\n", "9" * 8, "9" * 60, "9" * 300, "\u0661", "\u00b2", "None"):
                        self.refused(" ".join(words[:at] + [wrong] + words[at + 1:]) + tail)

    def test_numbers_beyond_their_bounds(self):
        self.refused(
            "out note 100 40 7 80 say :", "out note 3 0 7 80 say :", "out note 3 10000 7 80 say :",
            "out note 3 40 1000001 80 say :", "out note 3 40 7 0 say :", "out note 3 40 7 10000 say :",
            "come note 0 80 100 say :", "come note 1000001 80 100 say :", "come note 7 0 100 say :",
            "come note 7 10000 100 say :", "come note 7 80 0 say :", "come note 7 80 10000 say :",
            "lost 0 note 100 7 80", "lost 1000001 note 100 7 80", "lost 5 note 0 7 80", "lost 5 note 10000 7 80",
            "lost 5 note 100 0 80", "lost 5 note 100 1000001 80", "lost 5 note 100 7 0", "lost 5 note 100 7 10000",
            "wait 1000001", "wait 10000000", "rule note 0 7 4 41", "rule note 10000 7 4 41", "rule note 9 1000001 4 41",
            "rule note 9 7 100 41", "rule note 9 7 4 0", "rule note 9 7 4 10000", "unrule 1000001", "unrule 9999999")

    def test_blanks(self):
        for words, tail in self.words():
            text = " ".join(words)
            self.refused(" " + text + tail, "  " + text + tail, "\n" + text + tail)
            for at in range(1, len(words)):
                ahead, behind = " ".join(words[:at]), " ".join(words[at:])
                for between in ("  ", "", "   ", "\n", " \n", "\n ", ", "):
                    self.refused(ahead + between + behind + tail)
            if tail:
                for between in ("  :", ":", "   :", "\n:", " \n:", " ", ""):
                    self.refused(text + between + tail[2:].lstrip(": "))
            else:
                self.refused(text + " ", text + "  ", text + "\n", text + " :", text + ":", text + " :x")

    def test_line_feeds(self):
        for text, _ in WRITTEN:
            for at in range(len(text) + 1):
                self.refused(text[:at] + "\n" + text[at:], text[:at] + "\n" + text[at + 1:])

    def test_words_left_out_or_told_twice(self):
        for words, tail in self.words():
            for at in range(len(words)):
                self.refused(" ".join(words[:at] + words[at + 1:]) + tail)
                self.refused(" ".join(words[:at + 1] + words[at:]) + tail)
            for more in ("x", "0", "1", "any", "say", "none"):
                self.refused(" ".join(words + [more]) + tail)

    def test_a_letter_without_its_text(self):
        self.refused("out note 3 40 7 80 say", "out note 3 40 7 80 say x", "out note 3 40 7 80 say x:",
                     "come note 7 80 100 say", "come note 7 80 100 say hello", "come note 7 80 100 say x :y",
                     "out :", "come :", "out", "come", "out  :", " :", ":", "out note 3 40 7 80 :say :x")

    def test_capitals(self):
        for words, tail in self.words():
            for at, word in enumerate(words):
                if word.isalpha():
                    for wrong in (word.upper(), word.capitalize(), word[:-1] + word[-1].upper()):
                        self.refused(" ".join(words[:at] + [wrong] + words[at + 1:]) + tail)

    def test_words_that_the_kind_may_not_say(self):
        for word in ("open", "close", "break", "", "note", "shut", "said", "say:"):
            self.refused(f"out note 3 40 7 80 {word} :", f"come note 7 80 100 {word} :")
        for word in ("shut", "note", "up", "", "0", "1"):
            self.refused(f"out line 3 40 7 80 {word} :", f"come line 7 80 100 {word} :")
        for kind in ("letter", "", "notes", "say", "0", "note,line"):
            self.refused(f"out {kind} 3 40 7 80 say :", f"come {kind} 7 80 100 say :", f"lost 5 {kind} 100 7 80",
                         f"rule {kind} 9 any 4 41")

    def test_texts_of_letters(self):
        for head in ("out note 3 40 7 80 say :", "come line 7 80 100 open :"):
            read_deed(head + "a" * 40)
            self.refused(head + "a" * 41, head + " " * 41, head + "%", head + "a%b", head + "a\n", head + "\n",
                         head + "a" * 300, head + "\t", head + "\u00e9", head + "\x7f")

    def test_other_names_and_texts(self):
        self.refused("", " ", "\n", ":", " :", "%", "a" * 400, "\n" * 400, " " * 400, "0", "any", "ok", "none", "say",
                     "moment", "free", "lends", "talks", "rests", "rules", "book", "back 0 say :", "turned 5 in 3 40",
                     "led 5", "rule 5", "wait", "wait any", "unrule any", "unrule", "rule", "stay 5", "waits 5",
                     "wait 5; wait 5", "WAIT 5", "out 0 note 3 40 7 80 say :", "('wait', 5)")

    def test_any_text(self):
        source, found = random.Random(2), 0
        signs = ALL_SIGNS + "%\n"
        for _ in range(20000):
            text = source.choice(WRITTEN)[0] if source.random() < 0.9 else "".join(source.choices(signs, k=20))
            for _ in range(source.randrange(1, 4)):
                at = source.randrange(len(text) + 1)
                more = source.choice(["", "", " ", "0", "1", "9", ":", " :", "any", "-", source.choice(signs)])
                text = text[:at] + more + text[at + source.randrange(2):]
            expected = plainly_read(text)
            if expected is None:
                with self.assertRaises(NoRow, msg=text):
                    read_deed(text)
            else:
                found += 1
                self.assertEqual(read_deed(text), expected)
                self.assertEqual(show_deed(expected), text)
        self.assertGreater(found, 2000)


class Answers(unittest.TestCase):
    def test_each_kind(self):
        for answer, text in (
                (("led", 5), "led 5"), (("led", 9999), "led 9999"),
                (("kept", "astray"), "kept astray"), (("kept", "most"), "kept most"), (("kept", "full"), "kept full"),
                (("kept", "nobody"), "kept nobody"), (("kept", "sieve"), "kept sieve"),
                (("kept", "clash"), "kept clash"),
                (("in", 3, 40), "in 3 40"), (("in", 0, 1), "in 0 1"), (("told", 99, 9999), "told 99 9999"),
                (("turned", 5, ("in", 3, 40)), "turned 5 in 3 40"),
                (("turned", 5, ("kept", "astray")), "turned 5 kept astray"),
                (("turned", 5, ("kept", "nobody")), "turned 5 kept nobody"),
                (("turned", 5, ("kept", "sieve")), "turned 5 kept sieve"),
                (("turned", 5, ("kept", "clash")), "turned 5 kept clash"),
                (0, "rule 0"), (1, "rule 1"), (1999, "rule 1999"), (None, "ok")):
            self.assertEqual(show_answer(answer), text)


if __name__ == "__main__":
    unittest.main()
