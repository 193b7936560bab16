"""The rules for strangers that one gate was told."""


class Rules:
    def __init__(self):
        # Counts the dropped ones too: their numbers are not given anew.
        self.many_told = 0
        self.standing = {}

    def tell(self, kind, number, place, house, door):
        """Keep a rule, and give back the number that it has."""
        told = self.many_told
        self.standing[told] = (kind, number, place, house, door)
        self.many_told += 1
        return told

    def stands(self, k):
        return k in self.standing

    def drop(self, k):
        del self.standing[k]

    def door_for(self, kind, number, place):
        """The (house, door) of the first standing rule that fits, or None."""
        for rule_kind, rule_number, rule_place, house, door in self.standing.values():
            fits_place = rule_place is None or rule_place == place
            if rule_kind == kind and rule_number == number and fits_place:
                return (house, door)
        return None

    def listed(self):
        return [(k,) + rule for k, rule in self.standing.items()]
