"""Letters and deeds: the bounds of their parts, and what is a deed."""

GREATEST_HOUSE = 99
GREATEST_DOOR = 9999
GREATEST_PLACE = 1000000
GREATEST_TICKS = 1000000
GREATEST_RULE = 1000000

MOST_SIGNS = 40
FIRST_SIGN = 32
LAST_SIGN = 126
# By its number, since the sign itself may not stand in a text of the program.
PERCENT_SIGN = 37

KINDS = ("note", "line")
NOTE_WORDS = ("say",)
LINE_WORDS = ("open", "say", "close", "break")


def is_whole(thing):
    # Python counts True and False among the whole numbers; here they are none.
    return isinstance(thing, int) and not isinstance(thing, bool)


def is_whole_within(thing, least, greatest):
    return is_whole(thing) and least <= thing <= greatest


def is_house(thing):
    return is_whole_within(thing, 0, GREATEST_HOUSE)


def is_door(thing):
    """Whether it is a door, a far door or a number: their bounds are the same."""
    return is_whole_within(thing, 1, GREATEST_DOOR)


def is_place(thing):
    return is_whole_within(thing, 0, GREATEST_PLACE)


def is_outer_place(thing):
    """Whether it is a place that is not the court itself."""
    return is_whole_within(thing, 1, GREATEST_PLACE)


def is_ticks(thing):
    return is_whole_within(thing, 0, GREATEST_TICKS)


def is_kind(thing):
    return thing in KINDS


def is_word(kind, thing):
    """Whether a letter of this kind may say it as its word."""
    if kind == "note":
        return thing in NOTE_WORDS
    return thing in LINE_WORDS


def is_sign(sign):
    at = ord(sign)
    return FIRST_SIGN <= at <= LAST_SIGN and at != PERCENT_SIGN


def is_text(thing):
    """Whether a letter may bear it as its text."""
    if not isinstance(thing, str) or len(thing) > MOST_SIGNS:
        return False
    return all([is_sign(sign) for sign in thing])


def is_letter(kind, word, text):
    return is_kind(kind) and is_word(kind, word) and is_text(text)


def is_out(parts):
    if len(parts) != 7:
        return False
    kind, house, door, place, far, word, text = parts
    return is_house(house) and is_door(door) and is_place(place) and is_door(far) and is_letter(kind, word, text)


def is_come(parts):
    if len(parts) != 6:
        return False
    kind, place, far, number, word, text = parts
    return is_outer_place(place) and is_door(far) and is_door(number) and is_letter(kind, word, text)


def is_lost(parts):
    if len(parts) != 5:
        return False
    teller, kind, number, place, far = parts
    return is_outer_place(teller) and is_kind(kind) and is_door(number) and is_outer_place(place) and is_door(far)


def is_wait(parts):
    return len(parts) == 1 and is_ticks(parts[0])


def is_rule(parts):
    if len(parts) != 5:
        return False
    kind, number, place, house, door = parts
    if place is not None and not is_place(place):
        return False
    return is_kind(kind) and is_door(number) and is_house(house) and is_door(door)


def is_unrule(parts):
    return len(parts) == 1 and is_whole_within(parts[0], 0, GREATEST_RULE)


DEEDS = {
    "out": is_out,
    "come": is_come,
    "lost": is_lost,
    "wait": is_wait,
    "rule": is_rule,
    "unrule": is_unrule,
}


def name_of(thing):
    """The text with which a tuple begins; None of all else, of anything."""
    if not isinstance(thing, tuple) or len(thing) == 0 or not isinstance(thing[0], str):
        return None
    return thing[0]


def is_deed(thing):
    """Tell True or False, of anything."""
    name = name_of(thing)
    if name not in DEEDS:
        return False
    has_parts = DEEDS[name]
    return has_parts(thing[1:])
