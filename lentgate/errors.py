"""The refusals of the program, one class for each."""


class GateError(ValueError):
    """Any refusal."""


class NoForm(GateError):
    """What was handed in as a form is none."""


class NoDeed(GateError):
    """What was handed in as a deed is none."""


class NoRule(GateError):
    """A rule for a number of the pool, or the dropping of a rule that does not stand."""


class NoPlan(GateError):
    """What was handed in as a plan, or as the parts of a meeting, is none."""


class NoRow(GateError):
    """A text that writes no deed and asks for nothing."""
