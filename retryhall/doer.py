"""What the plain parts and rows of a deed do to its slots and its log, be it done alone or in a hall."""

from retryhall.logs import Log
from retryhall.words import reckon, slot_index


class Doer:
    def __init__(self, slots, width):
        self.held = list(slots)
        self.width = width
        self.log = Log()

    def held_in(self, slot):
        return self.held[slot_index(slot)]

    def hold(self, slot, number):
        self.held[slot_index(slot)] = number

    def box_at(self, place):
        return self.held_in(place) % self.width

    def do_reckon(self, word, slot, one, other):
        self.hold(slot, reckon(word, self.held_in(one), self.held_in(other)))

    def do_put(self, place, slot):
        self.log.write(self.box_at(place), self.held_in(slot))

    def sees_at(self, place):
        return self.log.own(self.box_at(place)) is None

    def take_own(self, slot, place):
        self.hold(slot, self.log.own(self.box_at(place)))

    # The numbers are those of all boxes, as they stand now.
    def take_seen(self, slot, place, numbers):
        box = self.box_at(place)
        self.log.see(box, numbers[box])
        self.hold(slot, numbers[box])
