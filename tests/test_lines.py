"""Point 7: words that lead states on, from either side, and words that are astray."""

import unittest

from lentgate.lines import next_state

STATES = (None, "note", "asked", "called", "up", "near", "far", "shut")
WORDS = ("open", "say", "close", "break")

# The rows of point 7: (side, word, the states ahead, the state behind).
NOTE_ROWS = [
    ("house", "say", (None, "note"), "note"),
    ("far", "say", (None, "note"), "note"),
]
LINE_ROWS = [
    ("house", "open", (None, "asked"), "asked"),
    ("house", "open", ("called",), "up"),
    ("house", "say", ("up",), "up"),
    ("house", "say", ("far",), "far"),
    ("house", "close", ("up",), "near"),
    ("house", "close", ("far",), "shut"),
    ("far", "open", (None, "called"), "called"),
    ("far", "open", ("asked",), "up"),
    ("far", "say", ("up",), "up"),
    ("far", "say", ("near",), "near"),
    ("far", "close", ("up",), "far"),
    ("far", "close", ("near",), "shut"),
    ("house", "break", ("asked", "called", "up", "near", "far"), "shut"),
    ("far", "break", ("asked", "called", "up", "near", "far"), "shut"),
]


def table(kind):
    rows = NOTE_ROWS if kind == "note" else LINE_ROWS
    return {(side, word, ahead): behind for side, word, aheads, behind in rows for ahead in aheads}


class Lines(unittest.TestCase):
    def test_each_kind_state_side_and_word(self):
        led = 0
        for kind in ("note", "line"):
            steps = table(kind)
            for state in STATES:
                for side in ("house", "far"):
                    for word in WORDS:
                        told = next_state(kind, state, side, word)
                        self.assertEqual(told, steps.get((side, word, state)), (kind, state, side, word))
                        led += told is not None
        self.assertEqual(led, 4 + 14 + 10)

    def test_a_kind_has_its_own_words_and_states_alone(self):
        for side in ("house", "far"):
            for word in ("open", "close", "break"):
                for state in STATES:
                    self.assertIsNone(next_state("note", state, side, word))
            for word in WORDS:
                self.assertIsNone(next_state("line", "note", side, word))
                self.assertIsNone(next_state("line", "shut", side, word))
                for state in STATES[2:]:
                    self.assertIsNone(next_state("note", state, side, word))

    def test_where_there_is_no_talk_there_is_nothing_to_break(self):
        self.assertIsNone(next_state("line", None, "house", "break"))
        self.assertIsNone(next_state("line", None, "far", "break"))


if __name__ == "__main__":
    unittest.main()
