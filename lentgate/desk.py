"""The desk: a gate that is told rows of text, and answers with texts."""

from lentgate.gate import Gate
from lentgate.texts import read_deed, show_answer, show_row


def show_rows(rows):
    if len(rows) == 0:
        return "none"
    return "; ".join([show_row(row) for row in rows])


class Desk:
    def __init__(self, form):
        self.gate = Gate(form)

    def say(self, row):
        """Do the deed that the row writes, or tell what it asks for."""
        if row == "moment":
            return str(self.gate.moment())
        if row == "free":
            return str(self.gate.free())
        if row == "lends":
            return show_rows(self.gate.lends())
        if row == "talks":
            return show_rows(self.gate.talks())
        if row == "rests":
            return show_rows(self.gate.rests())
        if row == "rules":
            return show_rows(self.gate.rules())
        return show_answer(self.gate.deed(read_deed(row)))
