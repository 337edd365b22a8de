"""The parts that a deed is made of, each with its text and the number of its rows."""


def list_shown(parts):
    return " ; ".join([part.shown() for part in parts])


def list_long(parts):
    return sum([part.long() for part in parts])


def side_shown(parts):
    inner = list_shown(parts)
    # An empty list has no words, so just one blank stands between its brackets.
    if inner == "":
        return "( )"
    return " ".join(["(", inner, ")"])


class Part:
    def shown(self):
        return ""

    def long(self):
        return 0


class Let(Part):
    def __init__(self, slot, number):
        self.slot = slot
        self.number = number

    def shown(self):
        return " ".join(["let", self.slot, str(self.number)])

    def long(self):
        return 1


class Reckon(Part):
    def __init__(self, word, slot, one, other):
        self.word = word
        self.slot = slot
        self.one = one
        self.other = other

    def shown(self):
        return " ".join([self.word, self.slot, self.one, self.other])

    def long(self):
        return 1


class Take(Part):
    def __init__(self, slot, place):
        self.slot = slot
        self.place = place

    def shown(self):
        return " ".join(["take", self.slot, self.place])

    def long(self):
        return 1


class Put(Part):
    def __init__(self, place, slot):
        self.place = place
        self.slot = slot

    def shown(self):
        return " ".join(["put", self.place, self.slot])

    def long(self):
        return 1


class If(Part):
    def __init__(self, slot, parts, others):
        self.slot = slot
        self.parts = list(parts)
        self.others = list(others)

    def shown(self):
        return " ".join(["if", self.slot, side_shown(self.parts), "else", side_shown(self.others)])

    def long(self):
        # Beside its sides' rows: unless, jump.
        return 2 + list_long(self.parts) + list_long(self.others)


class Either(Part):
    def __init__(self, parts, others):
        self.parts = list(parts)
        self.others = list(others)

    def shown(self):
        return " ".join(["either", side_shown(self.parts), "or", side_shown(self.others)])

    def long(self):
        # Beside its sides' rows: either, settle, jump.
        return 3 + list_long(self.parts) + list_long(self.others)


class Try(Part):
    def __init__(self, parts, name, slot, others):
        self.parts = list(parts)
        self.name = name
        self.slot = slot
        self.others = list(others)

    def shown(self):
        return " ".join(["try", side_shown(self.parts), "on", self.name, self.slot, side_shown(self.others)])

    def long(self):
        # Beside its sides' rows: guard, settle, jump.
        return 3 + list_long(self.parts) + list_long(self.others)


class Throw(Part):
    def __init__(self, name, slot):
        self.name = name
        self.slot = slot

    def shown(self):
        return " ".join(["throw", self.name, self.slot])

    def long(self):
        return 1


class Wait(Part):
    def shown(self):
        return "wait"

    def long(self):
        return 1
