"""A hand: its deeds, as rows, and how far it has come in the one that is under way."""

from retryhall.doer import Doer
from retryhall.words import SLOTS


# A side is begun by the row of its either or try; what comes out of it is a wait or a throw, told by its row.
def takes(begun_by, row):
    if row[0] == "wait":
        return begun_by[0] == "either"
    return begun_by[0] == "guard" and begun_by[1] == row[1]


# One going through a deed's rows. A deed that is begun anew gets a new one, so nothing of the old one is left.
class Run(Doer):
    def __init__(self, rows, slots, width):
        Doer.__init__(self, slots, width)
        self.rows = rows
        self.at = 0
        self.seen_stamps = {}
        # One (row that began it, slots as they were then) for each layer of the log above the lowest.
        self.sides = []

    def row(self):
        return self.rows[self.at]

    def is_stale(self, stamps):
        return any([stamps[box] != self.seen_stamps[box] for box in self.seen_stamps])

    # The number of the layer of the nearest side that takes a wait or a throw, 0 where none does.
    def taker_layer(self, row):
        layer = len(self.sides)
        while layer > 0 and not takes(self.sides[layer - 1][0], row):
            layer = layer - 1
        return layer

    # Whether the next row hangs on the boxes as they stand, so that a stale deed must not go it.
    def is_looked_over(self):
        row = self.row()
        if row[0] == "take":
            return self.sees_at(row[2])
        if row[0] == "wait" or row[0] == "throw":
            return self.taker_layer(row) == 0
        return row[0] == "lay"

    # Tells the box.
    def see_next(self, numbers, stamps):
        row = self.row()
        box = self.box_at(row[2])
        self.seen_stamps[box] = stamps[box]
        self.take_seen(row[1], row[2], numbers)
        self.at = self.at + 1
        return box

    # Goes the next row, which is none of those that are looked over.
    def go(self):
        row = self.row()
        self.at = self.at + 1
        if row[0] == "wait":
            self.leave(row)
        elif row[0] == "throw":
            self.throw(row)
        elif row[0] == "jump" or row[0] == "unless":
            self.lead(row)
        elif row[0] == "either" or row[0] == "guard":
            self.sides.append((row, list(self.held)))
            self.log.begin()
        elif row[0] == "settle":
            self.sides.pop()
            self.log.settle()
        else:
            self.go_plain(row)

    def go_plain(self, row):
        if row[0] == "let":
            self.hold(row[1], row[2])
        elif row[0] == "take":
            self.take_own(row[1], row[2])
        elif row[0] == "put":
            self.do_put(row[1], row[2])
        else:
            self.do_reckon(row[0], row[1], row[2], row[3])

    def lead(self, row):
        if row[0] == "jump":
            self.at = row[1]
        elif self.held_in(row[1]) == 0:
            self.at = row[2]

    def throw(self, row):
        # The fault's number is read ahead of the leaving, which sets the slots back.
        number = self.held_in(row[2])
        begun_by = self.leave(row)
        self.hold(begun_by[2], number)

    # Leaves the side that takes the row, with those begun in it, and tells the row that began it.
    def leave(self, row):
        layer = self.taker_layer(row)
        side = self.sides[layer - 1]
        while len(self.sides) >= layer:
            self.sides.pop()
            self.log.drop()
        begun_by = side[0]
        self.held = list(side[1])
        self.at = begun_by[-1]
        return begun_by


class Hand:
    def __init__(self, deeds, width):
        self.deeds = list(deeds)
        self.width = width
        self.nth = 0
        self.sleeps = False
        self.before = [0] * len(SLOTS)
        self.run = self.new_run()

    def state(self):
        if self.nth == len(self.deeds):
            return "ended"
        return "asleep" if self.sleeps else "awake"

    def new_run(self):
        rows = self.deeds[self.nth] if self.nth < len(self.deeds) else []
        return Run(rows, self.before, self.width)

    def begin_anew(self):
        self.sleeps = False
        self.run = self.new_run()

    def fall_asleep(self):
        self.sleeps = True

    # Goes on behind a deed that ended and left these numbers in the slots.
    def go_on(self, slots):
        self.nth = self.nth + 1
        self.before = list(slots)
        self.run = self.new_run()
