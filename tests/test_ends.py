"""Points 2, 4 and 5: what is a deed, of anything."""

import copy
import random
import unittest

from lentgate.ends import is_deed
from things import NO_TUPLES, SIXTY, STRANGE, anything, part_twice, with_part, without_part

ORDINARY = [
    ("out", "note", 3, 40, 7, 80, "say", "how are you"),
    ("out", "line", 3, 40, 7, 80, "open", "x"),
    ("come", "note", 7, 80, 5, "say", "well"),
    ("come", "line", 7, 80, 5, "close", "well"),
    ("lost", 9, "note", 5, 7, 80),
    ("lost", 9, "line", 5, 7, 80),
    ("wait", 12),
    ("rule", "note", 500, 7, 3, 40),
    ("rule", "line", 500, None, 3, 40),
    ("unrule", 4),
]

HOUSE = (0, 99)
DOOR = (1, 9999)
PLACE = (0, 1000000)
OUTER = (1, 1000000)

# The bounds of each number, by its place in the deed.
BOUNDS = {
    "out": {2: HOUSE, 3: DOOR, 4: PLACE, 5: DOOR},
    "come": {2: OUTER, 3: DOOR, 4: DOOR},
    "lost": {1: OUTER, 3: DOOR, 4: OUTER, 5: DOOR},
    "wait": {1: (0, 1000000)},
    "rule": {2: DOOR, 3: PLACE, 4: HOUSE, 5: DOOR},
    "unrule": {1: (0, 1000000)},
}

KIND_AT = {"out": 1, "come": 1, "lost": 2, "rule": 1}
WORD_AT = {"out": 6, "come": 5}
WORDS = {"note": ["say"], "line": ["open", "say", "close", "break"]}
LETTERS = [deed for deed in ORDINARY if deed[0] in WORD_AT]


class Deeds(unittest.TestCase):
    def told(self, thing, wanted):
        # The very True or False, not something that counts as such.
        self.assertIs(is_deed(thing), wanted, repr(thing))

    def test_ordinary(self):
        for deed in ORDINARY:
            self.told(deed, True)

    def test_bounds_of_each_number(self):
        for deed in ORDINARY:
            for at, (least, greatest) in BOUNDS[deed[0]].items():
                for number in (least, least + 1, greatest - 1, greatest):
                    self.told(with_part(deed, at, number), True)
                for number in (least - 1, greatest + 1, SIXTY, -SIXTY):
                    self.told(with_part(deed, at, number), False)

    def test_all_numbers_at_a_bound_together(self):
        for deed in ORDINARY:
            for end in (0, 1):
                edge = deed
                for at, bounds in BOUNDS[deed[0]].items():
                    edge = with_part(edge, at, bounds[end])
                self.told(edge, True)

    def test_place_nought(self):
        self.told(("out", "note", 3, 40, 0, 80, "say", ""), True)
        self.told(("rule", "note", 500, 0, 3, 40), True)
        self.told(("rule", "note", 500, None, 3, 40), True)
        self.told(("come", "note", 0, 80, 5, "say", ""), False)
        self.told(("come", "note", 1, 80, 5, "say", ""), True)
        self.told(("lost", 0, "note", 5, 7, 80), False)
        self.told(("lost", 1, "note", 5, 7, 80), True)
        self.told(("lost", 9, "note", 5, 0, 80), False)
        self.told(("lost", 9, "note", 5, 1, 80), True)

    def test_none_as_a_place_is_for_rules_alone(self):
        self.told(("out", "note", 3, 40, None, 80, "say", ""), False)
        self.told(("come", "note", None, 80, 5, "say", ""), False)
        self.told(("lost", None, "note", 5, 7, 80), False)
        self.told(("lost", 9, "note", 5, None, 80), False)

    def test_strange_parts(self):
        for deed in ORDINARY:
            text_at = WORD_AT[deed[0]] + 1 if deed[0] in WORD_AT else None
            for at in range(len(deed)):
                for part in STRANGE:
                    if at == text_at and isinstance(part, str):
                        continue
                    if deed[0] == "rule" and at == 3 and part is None:
                        continue
                    self.told(with_part(deed, at, part), False)

    def test_parts_exchanged_for_their_neighbours_kind(self):
        self.told(("out", 3, "note", 40, 7, 80, "say", ""), False)
        self.told(("lost", "note", 9, 5, 7, 80), False)
        self.told(("come", "note", 7, 80, 5, "", "say"), False)

    def test_part_left_out_or_told_twice(self):
        for deed in ORDINARY:
            for at in range(len(deed)):
                self.told(without_part(deed, at), False)
                self.told(part_twice(deed, at), False)
            self.told(deed[:1], False)
            self.told(deed + (None,), False)
            self.told((deed,), False)

    def test_list_in_the_tuples_place(self):
        for deed in ORDINARY:
            self.told(list(deed), False)
            self.told([deed], False)
            self.told((deed[0], deed[1:]), False)
            self.told((deed[0], list(deed[1:])), False)

    def test_other_names(self):
        for deed in ORDINARY:
            for name in ("", "in", "Out", "OUT", " out", "out ", "back", "moment", "waits", deed[0] + "\n", "un"):
                self.told(with_part(deed, 0, name), False)
            for other in BOUNDS:
                same_form = {other, deed[0]} <= {"wait", "unrule"}
                self.told(with_part(deed, 0, other), other == deed[0] or same_form)

    def test_kinds(self):
        for deed in ORDINARY:
            if deed[0] in KIND_AT:
                for kind in ("", "Note", "notes", "note ", "lin", "letter", "say", "any"):
                    self.told(with_part(deed, KIND_AT[deed[0]], kind), False)

    def test_words(self):
        words = ["open", "say", "close", "break", "", "Say", "says", "say ", "opened", "note", "line", "shut", "back"]
        for letter in LETTERS:
            for word in words:
                self.told(with_part(letter, WORD_AT[letter[0]], word), word in WORDS[letter[1]])

    def test_lengths_of_texts(self):
        for letter in LETTERS:
            at = WORD_AT[letter[0]] + 1
            for text in ("", "a", " ", "~", "a" * 39, "a" * 40, " " * 40, "~" * 40, ":", "out note 3"):
                self.told(with_part(letter, at, text), True)
            for text in ("a" * 41, " " * 41, "a" * 400):
                self.told(with_part(letter, at, text), False)

    def test_signs_of_texts(self):
        wrong = [chr(k) for k in range(32)] + ["%"] + [chr(k) for k in range(127, 300)] + ["\u2028", "\U0001f600"]
        right = [chr(k) for k in range(32, 127) if chr(k) != "%"]
        for letter in LETTERS:
            at = WORD_AT[letter[0]] + 1
            for sign in right:
                for text in (sign, sign + "ab", "a" + sign + "b", "ab" + sign, "a" * 39 + sign):
                    self.told(with_part(letter, at, text), True)
            for sign in wrong:
                for text in (sign, sign + "ab", "a" + sign + "b", "ab" + sign, "a" * 39 + sign):
                    self.told(with_part(letter, at, text), False)

    def test_no_tuples_and_empty_ones(self):
        for thing in NO_TUPLES:
            self.told(thing, False)

    def test_anything_is_told_and_left_as_it_is(self):
        source = random.Random(5)
        for _ in range(4000):
            thing = anything(source)
            held = copy.deepcopy(thing)
            self.assertIn(is_deed(thing), (True, False))
            self.assertEqual(repr(thing), repr(held))

    def test_anything_in_the_place_of_a_part(self):
        source = random.Random(6)
        for _ in range(4000):
            deed = source.choice(ORDINARY)
            part = [anything(source, 5)]
            self.told(with_part(deed, source.randrange(len(deed)), part), False)
            self.told(with_part(deed, source.randrange(len(deed)), tuple(part)), False)


if __name__ == "__main__":
    unittest.main()
