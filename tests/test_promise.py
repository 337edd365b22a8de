"""The promise over all deeds and turns, point 3, (a) to (e), on halls and turns made at will from a fixed seed."""

import random
import unittest

from retryhall.alone import alone
from retryhall.calm import is_calm, most
from retryhall.hall import Hall
from retryhall.parts import Either, If, Let, Put, Reckon, Take, Throw, Try, Wait
from retryhall.texts import read, shown
from retryhall.words import WIDE, reckon

LOOKED_OVER = ("take", "wait", "throw", "lay")


# Deeds, halls and turns made at will.

def made_parts(chance, depth, most_parts):
    return [made_part(chance, depth) for again in range(chance.randrange(most_parts + 1))]


def made_part(chance, depth):
    slot, one, other = (chance.choice("abc") for again in range(3))
    kind = chance.randrange(20 if depth > 0 else 13)
    if kind < 2:
        return Let(slot, chance.choice((0, 1, 1, 2, WIDE - 1)))
    if kind < 4:
        return Reckon(chance.choice(("plus", "minus", "times", "less", "same")), slot, one, other)
    if kind < 8:
        return Take(slot, one)
    if kind < 11:
        return Put(one, slot)
    if kind < 13:
        # A throw or a wait at the outside ends most deeds too soon, so there they are rare.
        if chance.randrange(4) > 0:
            return Take(slot, one)
        return chance.choice((Throw(chance.choice("nm"), slot), Wait()))
    parts, others = made_parts(chance, depth - 1, 3), made_parts(chance, depth - 1, 3)
    if kind < 15:
        # The usual way to wait for a box: until it has something.
        return If(slot, parts, chance.choice((others, [Wait()], [Wait()])))
    if kind < 18:
        return Either(parts, others)
    return Try(parts, chance.choice("nm"), slot, others)


def made_text(chance):
    while True:
        deed = made_parts(chance, chance.randrange(4), 8)
        if sum(part.long() for part in deed) < 40:
            return shown(deed)


def made_hall(chance):
    boxes = [chance.randrange(3) for box in range(chance.choice((1, 1, 2, 2, 3)))]
    hands = [[made_text(chance) for deed in range(chance.randrange(5))] for hand in range(chance.randrange(1, 6))]
    return boxes, hands


def made_turns(chance, hall):
    # Hands in any order, now and then one for several turns, and seldom one that isn't awake.
    while True:
        hand = chance.randrange(hall.hands())
        if hall.state(hand) == "awake" or chance.randrange(8) == 0:
            for again in range(chance.choice((1, 1, 1, 2, 5))):
                yield hand


class Waiting(Exception):
    pass


class Fault(Exception):
    pass


class Going:
    """A second telling of how a deed goes: through its parts, resting ahead of each row, without layers and jumps."""

    def __init__(self, text, slots, width):
        self.deed = read(text)
        self.slots = dict(zip("abcdefgh", slots))
        self.width = width
        self.written, self.seen = {}, {}
        self.steps = self.whole()
        self.ahead = next(self.steps)

    def go(self, number=None):
        try:
            self.ahead = self.steps.send(number)
        except (StopIteration, Waiting, Fault):
            self.ahead = None

    def whole(self):
        yield from self.parts(self.deed, 0, ())
        yield ("lay", sum(part.long() for part in self.deed))

    def parts(self, parts, row, takers):
        for part in parts:
            yield from self.part(part, row, takers)
            row += part.long()

    def part(self, part, row, takers):
        if isinstance(part, Take):
            yield from self.take(part, row)
        elif isinstance(part, Wait):
            yield ("plain" if "either" in takers else "wait", row)
            raise Waiting
        elif isinstance(part, Throw):
            number = self.slots[part.slot]
            yield ("plain" if ("try", part.name) in takers else "throw", row, part.name, number)
            raise Fault(part.name, number)
        elif isinstance(part, (If, Either, Try)):
            yield ("plain", row)
            yield from self.sided(part, row + 1, takers)
        else:
            yield ("plain", row)
            self.plain(part)

    def take(self, part, row):
        box = self.slots[part.place] % self.width
        if box in self.written:
            yield ("plain", row)
            self.slots[part.slot] = self.written[box]
        else:
            self.slots[part.slot] = self.seen[box] = yield ("take", row, box)

    def plain(self, part):
        if isinstance(part, Let):
            self.slots[part.slot] = part.number
        elif isinstance(part, Reckon):
            self.slots[part.slot] = reckon(part.word, self.slots[part.one], self.slots[part.other])
        else:
            self.written[self.slots[part.place] % self.width] = self.slots[part.slot]

    def sided(self, part, row, takers):
        between = row + sum(inner.long() for inner in part.parts)
        if isinstance(part, If):
            if self.slots[part.slot] != 0:
                yield from self.parts(part.parts, row, takers)
                yield ("plain", between)
            else:
                yield from self.parts(part.others, between + 1, takers)
            return
        taker = "either" if isinstance(part, Either) else ("try", part.name)
        slots, written = dict(self.slots), dict(self.written)
        try:
            yield from self.parts(part.parts, row, takers + (taker,))
        except Waiting:
            if taker != "either":
                raise
            self.slots, self.written = slots, written
        except Fault as fault:
            if taker != ("try", fault.args[0]):
                raise
            self.slots, self.written = slots, written
            self.slots[part.slot] = fault.args[1]
        else:
            yield ("plain", between)
            yield ("plain", between + 1)
            return
        yield from self.parts(part.others, between + 2, takers)


class SecondHall:
    """A second telling of a hall, by the words of points 14 to 20."""

    def __init__(self, boxes, hands):
        self.boxes, self.stamps, self.texts = list(boxes), [0] * len(boxes), hands
        self.which = [0 for hand in hands]
        self.slots = [[0] * 8 for hand in hands]
        self.asleep = [False for hand in hands]
        self.going = [None for hand in hands]
        self.seen_stamps = [{} for hand in hands]
        for hand in range(len(hands)):
            self.begin(hand)

    def begin(self, hand):
        self.asleep[hand] = False
        self.seen_stamps[hand] = {}
        texts = self.texts[hand]
        ended = self.which[hand] == len(texts)
        self.going[hand] = None if ended else Going(texts[self.which[hand]], self.slots[hand], len(self.boxes))

    def state(self, hand):
        return "ended" if self.going[hand] is None else "asleep" if self.asleep[hand] else "awake"

    def slots_now(self, hand):
        return self.slots[hand] if self.going[hand] is None else list(self.going[hand].slots.values())

    def saw(self, hand):
        return [] if self.going[hand] is None else sorted(self.going[hand].seen.items())

    def is_stale(self, hand):
        return any(self.stamps[box] != stamp for box, stamp in self.seen_stamps[hand].items())

    def turn(self, hand):
        if self.state(hand) != "awake":
            return ("idle",)
        going = self.going[hand]
        word, row = going.ahead[:2]
        if word in LOOKED_OVER and self.is_stale(hand):
            self.begin(hand)
            return ("anew", row)
        if word == "plain":
            going.go()
            return ("gone", row)
        if word == "take":
            box = going.ahead[2]
            self.seen_stamps[hand][box] = self.stamps[box]
            going.go(self.boxes[box])
            return ("seen", row, box, self.boxes[box])
        if word == "wait":
            self.asleep[hand] = True
            return ("asleep", row)
        self.which[hand] += 1
        if word == "lay":
            self.slots[hand] = list(going.slots.values())
            self.lay(going.written)
        self.begin(hand)
        return ({"throw": "fell", "lay": "done"}[word], row)

    def lay(self, written):
        for box, number in written.items():
            self.boxes[box] = number
            self.stamps[box] += 1
        for hand in range(len(self.texts)):
            if self.asleep[hand] and set(self.going[hand].seen) & set(written):
                self.begin(hand)


class Watched:
    """A hall whose every turn is held against the promise."""

    def __init__(self, case, boxes, hands):
        self.case, self.first, self.hands = case, list(boxes), hands
        self.hall = Hall(boxes, hands)
        self.second = SecondHall(boxes, hands)
        # Of each hand, since its deed was begun or begun anew: all boxes that stood, and those that others laid down
        # and that it didn't see since.
        self.stood = [[list(boxes)] for hand in hands]
        self.laid_by_others = [set() for hand in hands]
        self.counts = dict.fromkeys(("idle", "anew", "seen", "gone", "asleep", "fell", "done", "woken"), 0)

    def states(self):
        return [self.hall.state(hand) for hand in range(len(self.hands))]

    def turn(self, hand):
        hall = self.hall
        before = (hall.boxes(), hall.stamps(), self.states(), hall.journal())
        saw = [hall.saw(one) for one in range(len(self.hands))]
        told = hall.turn(hand)
        self.counts[told[0]] += 1
        self.check_second(hand, told)
        laid = self.check_laid(hand, told, before)
        self.check_anew(hand, told, saw[hand])
        self.check_states(hand, told, before[2], saw, laid)
        self.check_seen(hand, told, before[2])
        self.check_sleepers()
        return told

    def check_second(self, hand, told):
        case, hall, second = self.case, self.hall, self.second
        case.assertEqual(second.turn(hand), told)
        case.assertEqual((second.boxes, second.stamps), (hall.boxes(), hall.stamps()))
        for one in range(len(self.hands)):
            case.assertEqual((second.state(one), second.which[one], second.slots_now(one), second.saw(one)),
                             (hall.state(one), hall.which(one), hall.slots(one), hall.saw(one)))

    # (a): boxes are changed by a laying down alone, which the journal tells; the stamps by it alone, too.
    def check_laid(self, hand, told, before):
        case, hall = self.case, self.hall
        boxes, stamps, states, journal = before
        fresh = hall.journal()[len(journal):]
        case.assertEqual(hall.journal()[:len(journal)], journal)
        case.assertEqual(len(fresh), 1 if told[0] in ("done", "fell") else 0)
        laid = dict(fresh[0][4]) if fresh else {}
        if fresh:
            case.assertEqual(fresh[0][0], hand)
            case.assertEqual(fresh[0][2][0], told[0])
            case.assertEqual(fresh[0][5], hall.slots(hand))
            case.assertFalse(told[0] == "fell" and laid)
        case.assertEqual(hall.boxes(), [laid.get(box, number) for box, number in enumerate(boxes)])
        case.assertEqual(hall.stamps(), [stamp + (box in laid) for box, stamp in enumerate(stamps)])
        return set(laid)

    # (e): begun anew only where another hand laid down a box that was seen.
    def check_anew(self, hand, told, saw):
        stale = {box for box, number in saw} & self.laid_by_others[hand]
        if told[0] == "anew":
            self.case.assertTrue(stale)
            self.case.assertEqual(self.hall.saw(hand), [])
        if told[0] in ("seen", "asleep", "fell", "done"):
            self.case.assertFalse(stale)
        if told[0] == "seen":
            self.laid_by_others[hand].discard(told[2])

    # (d): woken by the laying down of one of the boxes seen, and by nothing else.
    def check_states(self, hand, told, states, saw, laid):
        for one, state in enumerate(states):
            now = self.hall.state(one)
            if one == hand:
                wanted = {"idle": (state,), "asleep": ("asleep",), "done": ("awake", "ended"),
                          "fell": ("awake", "ended")}.get(told[0], ("awake",))
                self.case.assertIn(now, wanted)
                self.case.assertEqual(told == ("idle",), state != "awake")
            elif state == "asleep" and laid & {box for box, number in saw[one]}:
                self.case.assertEqual((now, self.hall.saw(one)), ("awake", []))
                self.counts["woken"] += 1
            else:
                self.case.assertEqual((now, self.hall.saw(one)), (state, saw[one]))
            if one != hand:
                self.laid_by_others[one] |= laid

    # (b): what a deed has seen stood in the boxes all together at one time since it was begun.
    def check_seen(self, hand, told, states):
        for one in range(len(self.hands)):
            begun = one == hand and told[0] in ("anew", "done", "fell")
            if begun or states[one] == "asleep" and self.hall.state(one) == "awake":
                self.stood[one] = []
                self.laid_by_others[one] = set()
            self.stood[one].append(self.hall.boxes())
            saw = self.hall.saw(one)
            self.case.assertTrue(any(all(boxes[box] == number for box, number in saw) for boxes in self.stood[one]))

    # (d): the boxes that a sleeper saw stand as it saw them, and its deed, done alone, would wait.
    def check_sleepers(self):
        hall = self.hall
        for hand, state in enumerate(self.states()):
            if state == "asleep":
                boxes = hall.boxes()
                for box, number in hall.saw(hand):
                    self.case.assertEqual(boxes[box], number)
                deed = read(self.hands[hand][hall.which(hand)])
                told = alone(deed, boxes, self.slots_behind(hand))
                self.case.assertEqual(told[:2], (("waits",), hall.saw(hand)))

    def slots_behind(self, hand):
        # The slots behind the hand's last deed that ended.
        return ([[0] * 8] + [entry[5] for entry in self.hall.journal() if entry[0] == hand])[-1]

    # (a) and (c): the journal replayed, each of its deeds done alone.
    def check_journal(self):
        boxes = list(self.first)
        slots = [[0] * 8 for hand in self.hands]
        which = [0 for hand in self.hands]
        for hand, deed, end, saw, laid, after in self.hall.journal():
            self.case.assertEqual(deed, which[hand])
            self.case.assertEqual(saw, [(box, boxes[box]) for box, number in saw])
            self.case.assertEqual((end, saw, laid, after), alone(read(self.hands[hand][deed]), boxes, slots[hand]))
            which[hand] += 1
            slots[hand] = after
            for box, number in laid:
                boxes[box] = number
        self.case.assertEqual(boxes, self.hall.boxes())
        self.case.assertEqual(which, [self.hall.which(hand) for hand in range(len(self.hands))])


class PromiseTest(unittest.TestCase):
    def watched_to_the_end(self, chance, boxes, hands):
        watched = Watched(self, boxes, hands)
        turns, left = made_turns(chance, watched.hall), most(hands)
        while not is_calm(watched.hall):
            if watched.turn(next(turns)) != ("idle",):
                left -= 1
        self.assertGreaterEqual(left, 0, hands)
        self.assertNotIn("awake", watched.states())
        for hand in range(len(hands)):
            self.assertEqual(watched.turn(hand), ("idle",))
        watched.check_journal()
        return watched.counts

    def test_halls_and_turns_made_at_will(self):
        chance = random.Random(19)
        sums = {}
        for again in range(900):
            boxes, hands = made_hall(chance)
            for word, count in self.watched_to_the_end(chance, boxes, hands).items():
                sums[word] = sums.get(word, 0) + count
        # All that may happen has happened often.
        self.assertGreater(min(sums.values()), 200, sums)

    def test_one_hall_with_many_turns(self):
        # The same hands and boxes, woven in many ways. Where hand 1 takes both that hand 0 gives, hand 2 waits.
        chance = random.Random(23)
        grow = "let b 1 ; take c a ; plus c c b ; put a c"
        shrink = "let b 1 ; take c a ; if c ( minus c c b ; put a c ) else ( wait )"
        hands = [[grow, grow], [shrink, shrink], [shrink, grow]]
        ends = {}
        for again in range(200):
            watched = Watched(self, [0], hands)
            turns = made_turns(chance, watched.hall)
            while not is_calm(watched.hall):
                watched.turn(next(turns))
            watched.check_journal()
            ends[tuple(watched.states())] = ends.get(tuple(watched.states()), 0) + 1
            self.assertEqual(watched.hall.boxes(), [0])
        self.assertEqual(sorted(ends), [("ended", "ended", "asleep"), ("ended", "ended", "ended")])
        self.assertGreater(min(ends.values()), 20)

    def test_the_most_turns_are_reached(self):
        # The last row is the one at which the deed is begun anew, each time that the other hand has laid down.
        hands = [["take b a ; take b a"], ["put a a", "put a a", "put a a"]]
        hall, count = Hall([0], hands), 0
        for again in range(3):
            hall.turn(0)
            hall.turn(0)
            hall.turn(1)
            hall.turn(1)
            self.assertEqual(hall.turn(0), ("anew", 2))
            count += 3
        while hall.state(0) == "awake":
            hall.turn(0)
            count += 1
        self.assertEqual(count, 3 * 4)
        self.assertEqual(most(hands), 3 * 4 + 3 * 2 * 2)


class WholeDeedsTest(unittest.TestCase):
    """What is handed over from box to box is neither lost nor doubled, however the turns are given."""

    HAND_OVER = "let a %d ; let b %d ; let d 1 ; take c a ; if c ( ) else ( throw none c ) ; minus c c d ; put a c ; " \
                "take c b ; plus c c d ; put b c"

    def test_the_sum_stays(self):
        chance = random.Random(29)
        for again in range(150):
            hands = []
            for hand in range(4):
                hands.append([self.HAND_OVER % tuple(chance.sample(range(3), 2)) for deed in range(3)])
            hall = Hall([2, 1, 0], hands)
            turns = made_turns(chance, hall)
            while not is_calm(hall):
                hall.turn(next(turns))
                self.assertEqual(sum(hall.boxes()), 3)
            self.assertEqual(len(hall.journal()), 12)
            self.assertEqual([hall.state(hand) for hand in range(4)], ["ended"] * 4)


if __name__ == "__main__":
    unittest.main()
