"""Plans: letters and the answers to them, gone through by a new gate, and the pool that they need."""

from lentgate.ends import is_deed, is_outer_place, is_text, is_whole_within, is_word, name_of
from lentgate.errors import NoForm, NoPlan
from lentgate.forms import is_form
from lentgate.gate import Gate

MOST_STEPS = 200

# As many numbers as a plan can have letters: with these none is ever kept as "full".
WIDE_LOW = 1
WIDE_HIGH = 200


def is_back(parts, earlier):
    if len(parts) != 3 or not is_whole_within(parts[0], 0, len(earlier) - 1):
        return False
    k, word, text = parts
    letter = earlier[k]
    return letter[0] == "out" and is_word(letter[1], word) and is_text(text)


def is_step(thing, earlier):
    """Whether it may stand behind these steps of a plan."""
    name = name_of(thing)
    if name == "back":
        return is_back(thing[1:], earlier)
    if name == "out":
        return is_deed(thing) and is_outer_place(thing[4])
    return name == "wait" and is_deed(thing)


def is_plan(thing):
    """Tell True or False, of anything."""
    if not isinstance(thing, list) or len(thing) > MOST_STEPS:
        return False
    for at, step in enumerate(thing):
        # What stands ahead was found right, so a back may look at it.
        if not is_step(step, thing[:at]):
            return False
    return True


def refuse_wrong(form, plan):
    if not is_form(form):
        raise NoForm("this is no form of a gate")
    if not is_plan(plan):
        raise NoPlan("this is no plan")


def write(gate, step):
    """The talk in which the letter went, or None where it was kept or the talk was over by it."""
    answer = gate.deed(step)
    if answer[0] == "kept":
        return None
    return gate.table.of_inner(step[1:6])


def answer_back(gate, talk, word, text):
    if talk is None or not gate.table.is_living(talk):
        return
    kind, house, door, place, far = talk.inner
    gate.come(kind, place, far, talk.number, word, text)


def many_used(gate):
    """How many numbers of the pool are taken or rest."""
    return gate.form[1] - gate.form[0] + 1 - gate.free()


def go_through(gate, plan):
    """Go through the plan by a new gate; tell how many numbers were taken or resting at most."""
    talks = {}
    greatest = 0
    for at, step in enumerate(plan):
        if step[0] == "out":
            talks[at] = write(gate, step)
            # Looked at here alone: only a letter of a house makes them more.
            greatest = max(greatest, many_used(gate))
        elif step[0] == "wait":
            gate.deed(step)
        else:
            back, k, word, text = step
            answer_back(gate, talks[k], word, text)
    return greatest


def planned(form, plan):
    """The book of a gate of this form that went through the plan."""
    refuse_wrong(form, plan)
    gate = Gate(form)
    go_through(gate, plan)
    return gate.book()


def need(form, plan):
    """The least number of numbers with which nothing of the plan is kept as "full"."""
    refuse_wrong(form, plan)
    return go_through(Gate((WIDE_LOW, WIDE_HIGH) + form[2:]), plan)
