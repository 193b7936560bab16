"""Forms of a gate, and what a form alone decides: holders and times."""

from lentgate.ends import is_door, is_whole_within

LENDINGS = ("door", "place", "talk")
SIEVES = ("all", "place", "talk")
PICKS = ("next", "keep")

WIDEST_STEP = 199
GREATEST_MOST = 200
GREATEST_TIME = 1000000

# Which of the form's four times a state has; the last of the four is the rest.
TIME_AT = {"note": 0, "asked": 1, "called": 1, "up": 2, "near": 2, "far": 2}


def is_pool(low, high):
    return is_door(low) and is_door(high) and low <= high <= low + WIDEST_STEP


def is_times(thing):
    if not isinstance(thing, tuple) or len(thing) != 4:
        return False
    lives = all([is_whole_within(time, 1, GREATEST_TIME) for time in thing[:3]])
    return lives and is_whole_within(thing[3], 0, GREATEST_TIME)


def is_form(thing):
    """Tell True or False, of anything."""
    if not isinstance(thing, tuple) or len(thing) != 8:
        return False
    low, high, lending, sieve, pick, most, renew, times = thing
    if lending not in LENDINGS or sieve not in SIEVES or pick not in PICKS:
        return False
    if not is_whole_within(most, 1, GREATEST_MOST) or not isinstance(renew, bool):
        return False
    return is_pool(low, high) and is_times(times)


def holder_of(form, inner):
    """The holder to which a number is lent for a talk with this inner end."""
    kind, house, door, place, far = inner
    lending = form[2]
    if lending == "door":
        return (kind, house, door, None, None)
    if lending == "place":
        return (kind, house, door, place, None)
    return (kind, house, door, place, far)


def time_of(form, state):
    """How many ticks behind its last moment a talk in this state is over."""
    times = form[7]
    return times[TIME_AT[state]]
