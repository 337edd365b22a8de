"""A deed done alone: on boxes that no other hand touches, from part to part."""

from retryhall.logs import Log
from retryhall.parts import Either, If, Let, Put, Reckon, Take, Throw, Try, Wait
from retryhall.words import reckon, slot_index

DONE = ("done",)
WAITS = ("waits",)


def alone(deed, boxes, slots):
    doing = Doing(boxes, slots)
    end = doing.list_end(deed)
    if end == DONE:
        return (end, doing.log.saw(), doing.log.wrote(), list(doing.held))
    return (end, doing.log.saw(), [], list(slots))


class Doing:
    def __init__(self, boxes, slots):
        self.found = list(boxes)
        self.held = list(slots)
        self.log = Log()

    def held_in(self, slot):
        return self.held[slot_index(slot)]

    def hold(self, slot, number):
        self.held[slot_index(slot)] = number

    def box_at(self, place):
        return self.held_in(place) % len(self.found)

    # What is done tells its end: a wait or a fault is handed outwards, from part to part, until one takes it.
    def list_end(self, parts):
        for part in parts:
            end = self.part_end(part)
            if end != DONE:
                return end
        return DONE

    def part_end(self, part):
        if isinstance(part, If):
            return self.if_end(part)
        if isinstance(part, Either):
            return self.either_end(part)
        if isinstance(part, Try):
            return self.try_end(part)
        if isinstance(part, Throw):
            return ("fell", part.name, self.held_in(part.slot))
        if isinstance(part, Wait):
            return WAITS
        self.plain_done(part)
        return DONE

    def if_end(self, part):
        if self.held_in(part.slot) != 0:
            return self.list_end(part.parts)
        return self.list_end(part.others)

    def either_end(self, part):
        end = self.layered_end(part.parts)
        if end == WAITS:
            return self.list_end(part.others)
        return end

    def try_end(self, part):
        end = self.layered_end(part.parts)
        if end[0] == "fell" and end[1] == part.name:
            self.hold(part.slot, end[2])
            return self.list_end(part.others)
        return end

    # Whoever takes a wait or a fault wants all that lies within it undone, so each side that is left undoes its own.
    def layered_end(self, parts):
        before = list(self.held)
        self.log.begin()
        end = self.list_end(parts)
        if end == DONE:
            self.log.settle()
        else:
            self.log.drop()
            self.held = before
        return end

    def plain_done(self, part):
        if isinstance(part, Let):
            self.hold(part.slot, part.number)
        if isinstance(part, Reckon):
            self.hold(part.slot, reckon(part.word, self.held_in(part.one), self.held_in(part.other)))
        if isinstance(part, Take):
            self.take_done(part)
        if isinstance(part, Put):
            self.log.write(self.box_at(part.place), self.held_in(part.slot))

    def take_done(self, part):
        box = self.box_at(part.place)
        number = self.log.own(box)
        if number is None:
            number = self.found[box]
            self.log.see(box, number)
        self.hold(part.slot, number)
