"""Meetings: whether two doors behind two gates reach one another, by numbers that a helper tells them."""

from lentgate.ends import is_door, is_ticks
from lentgate.errors import NoForm, NoPlan
from lentgate.forms import is_form
from lentgate.gate import Gate

FIRST_PLACE = 1
SECOND_PLACE = 2
HELPER_PLACE = 3
HELPER_DOOR = 1
HOUSE = 0
WRITERS = ("one", "other")
MOST_STEPS = 100


def is_doors(thing):
    return isinstance(thing, tuple) and len(thing) == 2 and is_door(thing[0]) and is_door(thing[1])


def is_steps(thing):
    if not isinstance(thing, list) or len(thing) > MOST_STEPS:
        return False
    return all([step in WRITERS or is_ticks(step) for step in thing])


class Side:
    """One of the two doors behind its gate; known is the number by which the helper knows it."""

    def __init__(self, form, place, door):
        self.gate = Gate(form)
        self.place = place
        self.door = door
        # The first letter of a new gate is always led out.
        self.known = self.write(HELPER_PLACE, HELPER_DOOR)[1]

    def write(self, place, far):
        return self.gate.out("note", HOUSE, self.door, place, far, "say", "")


def write_to(writer, reader):
    """What the writer's gate answers, and the reader's; None for this one where the note was not led out."""
    answer = writer.write(reader.place, reader.known)
    if answer[0] != "led":
        return (answer, None)
    arrived = reader.gate.come("note", writer.place, answer[1], reader.known, "say", "")
    return (answer, arrived)


def meeting(one, other, doors, steps):
    """For each step that writes (step, answer, arrived)."""
    if not is_form(one) or not is_form(other):
        raise NoForm("these are no two forms of gates")
    if not is_doors(doors) or not is_steps(steps):
        raise NoPlan("these are no doors or no steps of a meeting")
    first = Side(one, FIRST_PLACE, doors[0])
    second = Side(other, SECOND_PLACE, doors[1])
    rows = []
    for step in steps:
        if step == "one":
            rows.append((step,) + write_to(first, second))
        elif step == "other":
            rows.append((step,) + write_to(second, first))
        else:
            first.gate.wait(step)
            second.gate.wait(step)
    return rows


def meets(one, other, doors, steps):
    """Whether each of the two doors got a note of the other one."""
    rows = meeting(one, other, doors, steps)
    led_in = [step for step, answer, arrived in rows if arrived is not None and arrived[0] == "in"]
    return all([writer in led_in for writer in WRITERS])
