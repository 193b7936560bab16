"""What several tests hand in: things that are neither deeds nor forms, and seeded heaps of anything."""

SIXTY = int("9" * 60)

# In the place of a number, a kind, a word or a name each of these is wrong.
STRANGE = [
    True, False, None, "", "x", "5", " say", "Say", "SAY", "percent %", "line\nfeed", "a" * 400,
    [], (), [5], (5,), ["say"], ("say",), [None], (None, None),
    [[[[[[]]]]]], ((((((),),),),),), [([([("note",)],)],)],
    SIXTY, -SIXTY, -1,
]

# None of these is a tuple, or none with anything in it.
NO_TUPLES = [
    True, False, None, 0, 1, 5, -1, SIXTY, -SIXTY, "", "out", "wait", "wait 5", "a" * 400, "\n",
    [], ["wait", 5], [("wait", 5)], ["out"], [[[[[[]]]]]], (), ((),), ([],), ((((((),),),),),),
]


def with_part(row, at, part):
    return row[:at] + (part,) + row[at + 1:]


def without_part(row, at):
    return row[:at] + row[at + 1:]


def part_twice(row, at):
    return row[:at] + (row[at],) + row[at:]


def anything(source, depth=6):
    """A thing such as point 2 calls anything, by a seeded source of chance."""
    sort = source.randrange(9 if depth else 7)
    if sort == 0:
        return source.choice([True, False, None])
    if sort == 1:
        return source.randrange(-SIXTY, SIXTY + 1)
    if sort in (2, 3):
        return source.choice([-1, 0, 1, 2, 99, 100, 200, 9999, 10000, 1000000, 1000001])
    if sort == 4:
        return source.choice(["out", "come", "lost", "wait", "rule", "unrule", "note", "line", "say", "close"])
    if sort == 5:
        return source.choice(["door", "place", "talk", "all", "next", "keep", "", "\n", "~", "a%b", "a" * 41])
    if sort == 6:
        return "".join([chr(source.choice([10] + list(range(32, 127)))) for _ in range(source.randrange(50))])
    inner = [anything(source, depth - 1) for _ in range(source.randrange(9))]
    return inner if sort == 7 else tuple(inner)


FORM_PARTS = {
    "low": 100, "high": 103, "lending": "talk", "sieve": "talk", "pick": "next", "most": 4, "renew": False,
    "times": (10, 5, 20, 7),
}


def form_of(**parts):
    """A form, with parts otherwise than FORM_PARTS has them."""
    assert set(parts) <= set(FORM_PARTS), parts
    return tuple({**FORM_PARTS, **parts}.values())


LOOKS = ("moment", "free", "lends", "talks", "rests", "rules", "book")


def looks(gate):
    """All that a gate tells of itself."""
    return {name: getattr(gate, name)() for name in LOOKS}


def without_book(gate):
    return {name: told for name, told in looks(gate).items() if name != "book"}
