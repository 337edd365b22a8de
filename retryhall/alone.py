"""A deed done alone: on boxes that no other hand touches, from part to part."""

from retryhall.doer import Doer
from retryhall.parts import Either, If, Let, Put, Reckon, Take, Throw, Try, Wait

DONE = ("done",)
WAITS = ("waits",)


def alone(deed, boxes, slots):
    doing = Doing(boxes, slots)
    end = doing.list_end(deed)
    if end == DONE:
        return (end, doing.log.saw(), doing.log.wrote(), list(doing.held))
    return (end, doing.log.saw(), [], list(slots))


class Doing(Doer):
    def __init__(self, boxes, slots):
        Doer.__init__(self, slots, len(boxes))
        self.found = list(boxes)

    # What is done tells its end: a wait or a fault is handed outwards, from part to part, until one takes it.
    def list_end(self, parts):
        for part in parts:
            end = self.part_end(part)
            if end != DONE:
                return end
        return DONE

    def part_end(self, part):
        if isinstance(part, If):
            return self.if_end(part)
        if isinstance(part, Either):
            return self.either_end(part)
        if isinstance(part, Try):
            return self.try_end(part)
        if isinstance(part, Throw):
            return ("fell", part.name, self.held_in(part.slot))
        if isinstance(part, Wait):
            return WAITS
        self.plain_done(part)
        return DONE

    def if_end(self, part):
        if self.held_in(part.slot) != 0:
            return self.list_end(part.parts)
        return self.list_end(part.others)

    def either_end(self, part):
        end = self.layered_end(part.parts)
        if end == WAITS:
            return self.list_end(part.others)
        return end

    def try_end(self, part):
        end = self.layered_end(part.parts)
        if end[0] == "fell" and end[1] == part.name:
            self.hold(part.slot, end[2])
            return self.list_end(part.others)
        return end

    # Whoever takes a wait or a fault wants all that lies within it undone, so each side that is left undoes its own.
    def layered_end(self, parts):
        before = list(self.held)
        self.log.begin()
        end = self.list_end(parts)
        if end == DONE:
            self.log.settle()
        else:
            self.log.drop()
            self.held = before
        return end

    def plain_done(self, part):
        if isinstance(part, Let):
            self.hold(part.slot, part.number)
        if isinstance(part, Reckon):
            self.do_reckon(part.word, part.slot, part.one, part.other)
        if isinstance(part, Take):
            self.take_done(part)
        if isinstance(part, Put):
            self.do_put(part.place, part.slot)

    def take_done(self, part):
        if self.sees_at(part.place):
            self.take_seen(part.slot, part.place, self.found)
        else:
            self.take_own(part.slot, part.place)
