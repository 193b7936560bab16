"""What each side sees of a book: what a house got, what went outside, and the plain rows."""


def letter_got(kind, door, place, far, word, text):
    return ("got", kind, door, place, far, word, text)


def got_by_out(deed, answer):
    """Who got what by a letter that was turned: (house, thing), or None."""
    if answer[0] != "turned" or answer[2][0] != "in":
        return None
    name, kind, writer, own_door, place, far, word, text = deed
    turned, number, (led_in, house, door) = answer
    return (house, letter_got(kind, door, 0, number, word, text))


def got_by_come(deed, answer):
    if answer[0] != "in":
        return None
    name, kind, place, far, number, word, text = deed
    led_in, house, door = answer
    return (house, letter_got(kind, door, place, far, word, text))


def got_by_lost(deed, answer):
    if answer[0] != "told":
        return None
    name, teller, kind, number, place, far = deed
    told, house, door = answer
    return (house, ("lost", kind, door, place, far, teller))


GETS = {"out": got_by_out, "come": got_by_come, "lost": got_by_lost}


def got(book, house):
    """What this house got, in order: letters, and letters of its own told as lost."""
    things = []
    for deed, answer in book:
        if deed[0] in GETS:
            got_by = GETS[deed[0]]
            found = got_by(deed, answer)
            if found is not None and found[0] == house:
                things.append(found[1])
    return things


def is_led_out(deed, answer):
    """Whether this is a letter that went outside; one to the place 0 is turned, or kept."""
    return deed[0] == "out" and answer[0] == "led"


def went(book):
    """What went outside, in order, as it is seen there."""
    rows = []
    for deed, answer in book:
        if is_led_out(deed, answer):
            name, kind, house, door, place, far, word, text = deed
            rows.append((kind, answer[1], place, far, word, text))
    return rows


def plain_rows(book):
    """The letters led out and led in, as they would be with an address for each house."""
    rows = []
    for deed, answer in book:
        if is_led_out(deed, answer):
            rows.append(("to",) + deed[1:])
        elif deed[0] == "come" and answer[0] == "in":
            name, kind, place, far, number, word, text = deed
            led_in, house, door = answer
            rows.append(("from", kind, house, door, place, far, word, text))
    return rows
