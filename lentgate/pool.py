"""The numbers of a gate: which are taken, which rest, which is picked next."""


class Pool:
    def __init__(self, low, high):
        self.low = low
        self.high = high
        self.mark = low
        self.taken = {}
        # Of numbers that were given back: from which moment on each is free.
        self.until = {}

    def has(self, number):
        return self.low <= number <= self.high

    def is_free(self, number, moment):
        if not self.has(number) or number in self.taken:
            return False
        return number not in self.until or self.until[number] <= moment

    def from_mark(self):
        """All numbers of the pool, going up from the mark and behind high on from low."""
        return list(range(self.mark, self.high + 1)) + list(range(self.low, self.mark))

    def picked(self, pick, door, moment):
        """The number picked for this door; None where none is free."""
        if pick == "keep" and self.is_free(door, moment):
            return door
        for number in self.from_mark():
            if self.is_free(number, moment):
                return number
        return None

    def take(self, number):
        self.taken[number] = True
        if number in self.until:
            del self.until[number]
        self.mark = self.low if number == self.high else number + 1

    def give(self, number, until):
        """Give a taken number back: it rests ahead of the moment until."""
        del self.taken[number]
        self.until[number] = until

    def resting(self, moment):
        return [(number, self.until[number]) for number in sorted(self.until) if self.until[number] > moment]

    def many_free(self, moment):
        return len([number for number in range(self.low, self.high + 1) if self.is_free(number, moment)])
