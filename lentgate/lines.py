"""How the words of either side lead a talk from state to state."""

# (side, state, word) to the state behind it; None as a state is no talk.
LINE_STEPS = {
    ("house", None, "open"): "asked",
    ("house", "asked", "open"): "asked",
    ("house", "called", "open"): "up",
    ("house", "up", "say"): "up",
    ("house", "far", "say"): "far",
    ("house", "up", "close"): "near",
    ("house", "far", "close"): "shut",
    ("far", None, "open"): "called",
    ("far", "called", "open"): "called",
    ("far", "asked", "open"): "up",
    ("far", "up", "say"): "up",
    ("far", "near", "say"): "near",
    ("far", "up", "close"): "far",
    ("far", "near", "close"): "shut",
}

# No talk is no state, so there is nothing to break where there is none.
BREAKABLE = ("asked", "called", "up", "near", "far")


def note_state(state, word):
    if word == "say" and (state is None or state == "note"):
        return "note"
    return None


def line_state(state, side, word):
    if word == "break":
        return "shut" if state in BREAKABLE else None
    return LINE_STEPS.get((side, state, word))


def next_state(kind, state, side, word):
    """The state to which the word from this side leads; None where it is astray."""
    if kind == "note":
        return note_state(state, word)
    return line_state(state, side, word)
