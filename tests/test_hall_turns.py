"""Turns of one hand by itself: points 9, 11, 12 and 15 to 20."""

import random
import unittest

from retryhall.alone import alone
from retryhall.hall import Hall
from retryhall.parts import Either, If, Let, Put, Reckon, Take, Throw, Try, Wait
from retryhall.texts import read, shown
from retryhall.words import WIDE

IDLE = ("idle",)


def slots(**numbers):
    return [numbers.get(slot, 0) for slot in "abcdefgh"]


class OneHandCase(unittest.TestCase):
    def goes(self, hall, *steps):
        # Each step: what is told of the turn, and the slots and what is seen behind it.
        for told, now, saw in steps:
            self.assertEqual(hall.turn(0), told)
            self.assertEqual((hall.slots(0), hall.saw(0)), (now, saw), told)

    def told_all(self, text, boxes):
        hall = Hall(boxes, [[text]])
        told = []
        while hall.state(0) == "awake":
            told.append(hall.turn(0))
        return hall, told

    def check_told(self, text, boxes, *wanted):
        hall, told = self.told_all(text, boxes)
        self.assertEqual(told, list(wanted), text)
        return hall


class PlainRowsTest(OneHandCase):
    def test_the_empty_deed(self):
        hall = Hall([5], [["", "let a 1"]])
        self.goes(hall, (("done", 0), slots(), []))
        self.assertEqual((hall.which(0), hall.state(0)), (1, "awake"))
        self.assertEqual((hall.boxes(), hall.stamps()), ([5], [0]))
        self.assertEqual(hall.journal(), [(0, 0, ("done",), [], [], slots())])

    def test_let(self):
        hall = Hall([5], [["let a 7 ; let h 18446744073709551615 ; let a 0"]])
        self.goes(hall, (("gone", 0), slots(a=7), []), (("gone", 1), slots(a=7, h=WIDE - 1), []),
                  (("gone", 2), slots(h=WIDE - 1), []), (("done", 3), slots(h=WIDE - 1), []))

    def test_reckon(self):
        hall = Hall([5], [["let a 3 ; let b 5 ; plus c a b ; minus d a b ; times e a b ; less f a b ; same g a b ; "
                           "minus a a a ; same h a a"]])
        hall.turn(0)
        hall.turn(0)
        base = {"a": 3, "b": 5}
        for row, slot, number in ((2, "c", 8), (3, "d", WIDE - 2), (4, "e", 15), (5, "f", 1), (6, "g", 0),
                                  (7, "a", 0), (8, "h", 1)):
            base[slot] = number
            self.goes(hall, (("gone", row), slots(**base), []))
        self.goes(hall, (("done", 9), slots(**base), []))

    def test_take(self):
        hall = Hall([5, 6, 7], [["take b a ; let a 2 ; take c a ; let a 4 ; take d a ; take b a"]])
        self.goes(
            hall, (("seen", 0, 0, 5), slots(b=5), [(0, 5)]), (("gone", 1), slots(a=2, b=5), [(0, 5)]),
            (("seen", 2, 2, 7), slots(a=2, b=5, c=7), [(0, 5), (2, 7)]),
            (("gone", 3), slots(a=4, b=5, c=7), [(0, 5), (2, 7)]),
            (("seen", 4, 1, 6), slots(a=4, b=5, c=7, d=6), [(0, 5), (1, 6), (2, 7)]),
            (("seen", 5, 1, 6), slots(a=4, b=6, c=7, d=6), [(0, 5), (1, 6), (2, 7)]),
            (("done", 6), slots(a=4, b=6, c=7, d=6), []))
        self.assertEqual(hall.journal(), [
            (0, 0, ("done",), [(0, 5), (1, 6), (2, 7)], [], slots(a=4, b=6, c=7, d=6))])
        self.assertEqual((hall.boxes(), hall.stamps()), ([5, 6, 7], [0, 0, 0]))

    def test_take_into_its_own_place(self):
        self.goes(Hall([1, 4], [["take a a ; take a a ; take a a"]]), (("seen", 0, 0, 1), slots(a=1), [(0, 1)]),
                  (("seen", 1, 1, 4), slots(a=4), [(0, 1), (1, 4)]), (("seen", 2, 0, 1), slots(a=1), [(0, 1), (1, 4)]))

    def test_a_box_far_beyond_the_last(self):
        hall = Hall([5, 6, 7], [["let a 18446744073709551615 ; take b a ; let c 8 ; put c c"]])
        # 2 ** 64 - 1 is a threefold number.
        self.assertEqual([hall.turn(0) for again in range(5)],
                         [("gone", 0), ("seen", 1, 0, 5), ("gone", 2), ("gone", 3), ("done", 4)])
        self.assertEqual(hall.boxes(), [5, 6, 8])

    def test_put(self):
        hall = Hall([5, 6], [["let a 3 ; let b 9 ; put a b ; put c a ; put a c"]])
        now = slots(a=3, b=9)
        self.goes(hall, (("gone", 0), slots(a=3), []), (("gone", 1), now, []), (("gone", 2), now, []),
                  (("gone", 3), now, []), (("gone", 4), now, []))
        self.assertEqual((hall.boxes(), hall.stamps()), ([5, 6], [0, 0]))
        self.goes(hall, (("done", 5), now, []))
        self.assertEqual((hall.boxes(), hall.stamps()), ([3, 0], [1, 1]))
        self.assertEqual(hall.journal(), [(0, 0, ("done",), [], [(0, 3), (1, 0)], now)])

    def test_put_of_the_same_number(self):
        hall = Hall([5, 6], [["take b a ; put a b"]])
        for again in range(3):
            hall.turn(0)
        self.assertEqual((hall.boxes(), hall.stamps()), ([5, 6], [1, 0]))
        self.assertEqual(hall.journal(), [(0, 0, ("done",), [(0, 5)], [(0, 5)], slots(b=5))])

    def test_put_twice_at_a_box_grows_its_stamp_by_one(self):
        hall = self.check_told("put a a ; let b 4 ; put a b", [5], ("gone", 0), ("gone", 1), ("gone", 2), ("done", 3))
        self.assertEqual((hall.boxes(), hall.stamps()), ([4], [1]))

    def test_stamps_grow_with_each_deed(self):
        hall = Hall([5, 6], [["put a a", "let b 1 ; put b b", "put a b", "take c a"]])
        stamps = []
        for again in range(9):
            hall.turn(0)
            stamps.append(hall.stamps())
        self.assertEqual(stamps, [[0, 0], [1, 0], [1, 0], [1, 0], [1, 1], [1, 1], [2, 1], [2, 1], [2, 1]])
        self.assertEqual(hall.boxes(), [1, 1])


class OwnOfTheLogTest(OneHandCase):
    def test_a_take_of_what_was_put(self):
        hall = Hall([5], [["let b 9 ; put a b ; take c a ; put a a ; take c a"]])
        self.goes(hall, (("gone", 0), slots(b=9), []), (("gone", 1), slots(b=9), []),
                  (("gone", 2), slots(b=9, c=9), []), (("gone", 3), slots(b=9, c=9), []), (("gone", 4), slots(b=9), []),
                  (("done", 5), slots(b=9), []))
        self.assertEqual(hall.journal(), [(0, 0, ("done",), [], [(0, 0)], slots(b=9))])

    def test_a_take_of_what_was_put_beneath(self):
        self.check_told("put a b ; either ( take c a ) or ( )", [5], ("gone", 0), ("gone", 1), ("gone", 2),
                        ("gone", 3), ("gone", 4), ("done", 5))

    def test_a_take_of_what_was_put_in_a_side_that_was_settled(self):
        hall = self.check_told("either ( let b 8 ; put a b ) or ( ) ; take c a", [5], ("gone", 0), ("gone", 1),
                               ("gone", 2), ("gone", 3), ("gone", 4), ("gone", 5), ("done", 6))
        self.assertEqual(hall.journal(), [(0, 0, ("done",), [], [(0, 8)], slots(b=8, c=8))])

    def test_a_take_of_what_was_put_in_a_side_that_was_left(self):
        hall = self.check_told("either ( let b 8 ; put a b ; wait ) or ( ) ; take c a", [5], ("gone", 0), ("gone", 1),
                               ("gone", 2), ("gone", 3), ("seen", 6, 0, 5), ("done", 7))
        self.assertEqual(hall.journal(), [(0, 0, ("done",), [(0, 5)], [], slots(c=5))])

    def test_a_nought_is_something_of_its_own(self):
        self.check_told("put a a ; take b a", [5], ("gone", 0), ("gone", 1), ("done", 2))

    def test_seen_first_and_put_then(self):
        hall = self.check_told("take b a ; put a a ; take c a", [5], ("seen", 0, 0, 5), ("gone", 1), ("gone", 2),
                               ("done", 3))
        self.assertEqual(hall.journal(), [(0, 0, ("done",), [(0, 5)], [(0, 0)], slots(b=5))])

    def test_another_box(self):
        self.check_told("put a a ; let b 1 ; take c b", [5, 6], ("gone", 0), ("gone", 1), ("seen", 2, 1, 6),
                        ("done", 3))


class JumpsTest(OneHandCase):
    def test_if(self):
        text = "if a ( let b 1 ) else ( let b 2 ; let c 3 ) ; let d 4"
        self.check_told(text, [5], ("gone", 0), ("gone", 3), ("gone", 4), ("gone", 5), ("done", 6))
        hall = self.check_told("let a 9 ; " + text, [5], ("gone", 0), ("gone", 1), ("gone", 2), ("gone", 3),
                               ("gone", 6), ("done", 7))
        self.assertEqual(hall.slots(0), slots(a=9, b=1, d=4))

    def test_if_with_empty_sides(self):
        self.check_told("if a ( ) else ( )", [5], ("gone", 0), ("done", 2))
        self.check_told("let a 1 ; if a ( ) else ( )", [5], ("gone", 0), ("gone", 1), ("gone", 2), ("done", 3))

    def test_either_comes_to_its_end(self):
        hall = Hall([5], [["either ( let b 1 ; put a b ) or ( let c 2 ) ; let d 3"]])
        self.goes(hall, (("gone", 0), slots(), []), (("gone", 1), slots(b=1), []), (("gone", 2), slots(b=1), []),
                  (("gone", 3), slots(b=1), []), (("gone", 4), slots(b=1), []), (("gone", 6), slots(b=1, d=3), []),
                  (("done", 7), slots(b=1, d=3), []))
        self.assertEqual(hall.boxes(), [1])

    def test_either_waits(self):
        hall = Hall([5], [["let b 7 ; either ( let b 1 ; take c a ; put a b ; wait ) or ( let d 2 ) ; let e 3"]])
        self.goes(hall, (("gone", 0), slots(b=7), []), (("gone", 1), slots(b=7), []), (("gone", 2), slots(b=1), []),
                  (("seen", 3, 0, 5), slots(b=1, c=5), [(0, 5)]), (("gone", 4), slots(b=1, c=5), [(0, 5)]),
                  (("gone", 5), slots(b=7), [(0, 5)]), (("gone", 8), slots(b=7, d=2), [(0, 5)]),
                  (("gone", 9), slots(b=7, d=2, e=3), [(0, 5)]), (("done", 10), slots(b=7, d=2, e=3), []))
        self.assertEqual((hall.boxes(), hall.stamps()), ([5], [0]))
        self.assertEqual(hall.journal(), [(0, 0, ("done",), [(0, 5)], [], slots(b=7, d=2, e=3))])

    def test_either_with_empty_sides(self):
        self.check_told("either ( ) or ( )", [5], ("gone", 0), ("gone", 1), ("gone", 2), ("done", 3))
        self.check_told("either ( wait ) or ( )", [5], ("gone", 0), ("gone", 1), ("done", 4))

    def test_try_comes_to_its_end(self):
        self.check_told("try ( let b 1 ) on n c ( let d 2 ) ; let e 3", [5], ("gone", 0), ("gone", 1), ("gone", 2),
                        ("gone", 3), ("gone", 5), ("done", 6))

    def test_try_throws(self):
        hall = Hall([5], [["let b 7 ; try ( let b 1 ; put a b ; throw n b ) on n c ( let d 2 ) ; let e 3"]])
        self.goes(hall, (("gone", 0), slots(b=7), []), (("gone", 1), slots(b=7), []), (("gone", 2), slots(b=1), []),
                  (("gone", 3), slots(b=1), []), (("gone", 4), slots(b=7, c=1), []),
                  (("gone", 7), slots(b=7, c=1, d=2), []), (("gone", 8), slots(b=7, c=1, d=2, e=3), []),
                  (("done", 9), slots(b=7, c=1, d=2, e=3), []))
        self.assertEqual((hall.boxes(), hall.stamps()), ([5], [0]))

    def test_the_faults_number_is_put_over_the_slots_of_the_begin(self):
        hall = Hall([5], [["let a 3 ; try ( let a 4 ; throw n a ) on n a ( )"]])
        self.goes(hall, (("gone", 0), slots(a=3), []), (("gone", 1), slots(a=3), []), (("gone", 2), slots(a=4), []),
                  (("gone", 3), slots(a=4), []), (("done", 6), slots(a=4), []))

    def test_a_wait_goes_through_tries(self):
        hall = self.check_told(
            "either ( let b 1 ; try ( try ( wait ) on n c ( ) ) on m c ( ) ) or ( let d 1 )", [5], ("gone", 0),
            ("gone", 1), ("gone", 2), ("gone", 3), ("gone", 4), ("gone", 11), ("done", 12))
        self.assertEqual(hall.slots(0), slots(d=1))

    def test_a_throw_goes_through_eithers_and_tries_of_other_names(self):
        hall = self.check_told(
            "try ( let b 1 ; either ( try ( throw n b ) on m c ( ) ) or ( ) ) on n e ( let d 1 )", [5], ("gone", 0),
            ("gone", 1), ("gone", 2), ("gone", 3), ("gone", 4), ("gone", 11), ("done", 12))
        self.assertEqual(hall.slots(0), slots(d=1, e=1))

    def test_within_the_other_side_nothing_is_taken(self):
        self.check_told("either ( wait ) or ( wait )", [5], ("gone", 0), ("gone", 1), ("asleep", 4))
        self.check_told("try ( throw n a ) on n b ( throw n a )", [5], ("gone", 0), ("gone", 1), ("fell", 4))

    def test_behind_the_part_nothing_is_taken(self):
        self.check_told("either ( ) or ( ) ; wait", [5], ("gone", 0), ("gone", 1), ("gone", 2), ("asleep", 3))
        self.check_told("either ( wait ) or ( ) ; wait", [5], ("gone", 0), ("gone", 1), ("asleep", 4))
        self.check_told("try ( ) on n a ( ) ; throw n a", [5], ("gone", 0), ("gone", 1), ("gone", 2), ("fell", 3))

    def test_the_nearest_takes(self):
        self.check_told("either ( either ( wait ) or ( let a 1 ) ) or ( let b 1 )", [5], ("gone", 0), ("gone", 1),
                        ("gone", 2), ("gone", 5), ("gone", 6), ("gone", 7), ("done", 9))
        self.check_told("try ( try ( throw n a ) on n b ( let a 1 ) ) on n c ( let b 1 )", [5], ("gone", 0),
                        ("gone", 1), ("gone", 2), ("gone", 5), ("gone", 6), ("gone", 7), ("done", 9))

    def test_all_layers_begun_since_are_dropped(self):
        hall, told = self.told_all(
            "let b 1 ; let c 2 ; let d 3 ; put a b ; either ( put b b ; try ( put c c ; either ( put d d ) or ( ) ; "
            "wait ) on n h ( ) ) or ( take e b ; take f c ; take g d ) ; put c d", [9, 9, 9, 9])
        self.assertEqual(hall.journal(), [
            (0, 0, ("done",), [(1, 9), (2, 9), (3, 9)], [(0, 1), (2, 3)], slots(b=1, c=2, d=3, e=9, f=9, g=9))])
        self.assertEqual((hall.boxes(), hall.stamps()), ([1, 9, 3, 9], [1, 0, 1, 0]))


class EndsTest(OneHandCase):
    def test_asleep(self):
        hall = Hall([5], [["let b 1 ; take c a ; put a b ; wait ; let d 1", "let e 1"]])
        self.goes(hall, (("gone", 0), slots(b=1), []), (("seen", 1, 0, 5), slots(b=1, c=5), [(0, 5)]),
                  (("gone", 2), slots(b=1, c=5), [(0, 5)]), (("asleep", 3), slots(b=1, c=5), [(0, 5)]))
        self.assertEqual((hall.state(0), hall.which(0)), ("asleep", 0))
        for again in range(3):
            self.goes(hall, (IDLE, slots(b=1, c=5), [(0, 5)]))
        self.assertEqual((hall.boxes(), hall.stamps(), hall.journal()), ([5], [0], []))
        self.assertEqual((hall.state(0), hall.which(0)), ("asleep", 0))

    def test_asleep_within_sides(self):
        hall = Hall([5], [["try ( let b 1 ; wait ) on n c ( )"]])
        self.goes(hall, (("gone", 0), slots(), []), (("gone", 1), slots(b=1), []), (("asleep", 2), slots(b=1), []),
                  (IDLE, slots(b=1), []))

    def test_fell(self):
        hall = Hall([5], [["let b 1", "let b 6 ; take c a ; put a b ; throw n b ; let d 1", "let e 1"]])
        self.goes(hall, (("gone", 0), slots(b=1), []), (("done", 1), slots(b=1), []), (("gone", 0), slots(b=6), []),
                  (("seen", 1, 0, 5), slots(b=6, c=5), [(0, 5)]), (("gone", 2), slots(b=6, c=5), [(0, 5)]))
        self.goes(hall, (("fell", 3), slots(b=1), []))
        self.assertEqual((hall.state(0), hall.which(0)), ("awake", 2))
        self.assertEqual((hall.boxes(), hall.stamps()), ([5], [0]))
        self.assertEqual(hall.journal()[1:], [(0, 1, ("fell", "n", 6), [(0, 5)], [], slots(b=1))])
        self.goes(hall, (("gone", 0), slots(b=1, e=1), []), (("done", 1), slots(b=1, e=1), []))
        self.assertEqual((hall.state(0), hall.which(0)), ("ended", 3))

    def test_fell_as_the_last(self):
        hall = Hall([5], [["either ( let b 3 ; try ( throw full b ) on n c ( ) ) or ( )"]])
        self.goes(hall, (("gone", 0), slots(), []), (("gone", 1), slots(b=3), []), (("gone", 2), slots(b=3), []),
                  (("fell", 3), slots(), []))
        self.assertEqual((hall.state(0), hall.which(0)), ("ended", 1))
        self.assertEqual(hall.journal(), [(0, 0, ("fell", "full", 3), [], [], slots())])

    def test_names_of_faults_that_are_words(self):
        for name in ("wait", "done", "either", "guard", "lay", "fell", "n"):
            hall = self.check_told("either ( throw %s a ) or ( )" % name, [5], ("gone", 0), ("fell", 1))
            self.assertEqual(hall.journal(), [(0, 0, ("fell", name, 0), [], [], slots())])
            self.check_told("try ( throw %s a ) on %s b ( )" % (name, name), [5], ("gone", 0), ("gone", 1),
                            ("done", 4))
            self.check_told("try ( wait ) on %s b ( )" % name, [5], ("gone", 0), ("asleep", 1))

    def test_ended(self):
        hall = Hall([5], [["let b 1 ; take c a"]])
        for again in range(3):
            hall.turn(0)
        self.assertEqual((hall.state(0), hall.which(0)), ("ended", 1))
        for again in range(3):
            self.goes(hall, (IDLE, slots(b=1, c=5), []))
        self.assertEqual((len(hall.journal()), hall.which(0)), (1, 1))

    def test_slots_go_from_deed_to_deed_and_boxes_too(self):
        hall = Hall([5], [["let b 2 ; take c a ; plus c c b ; put a c"] * 3])
        for deed, number in enumerate((5, 7, 9)):
            self.assertEqual([hall.turn(0) for again in range(5)],
                             [("gone", 0), ("seen", 1, 0, number), ("gone", 2), ("gone", 3), ("done", 4)])
            self.assertEqual(hall.journal()[deed], (
                0, deed, ("done",), [(0, number)], [(0, number + 2)], slots(b=2, c=number + 2)))
            self.assertEqual((hall.boxes(), hall.stamps(), hall.which(0)), ([number + 2], [deed + 1], deed + 1))

    def test_a_hand_sees_its_own_laying_down_and_is_not_stale(self):
        hall = Hall([5], [["take b a ; put a a", "take b a ; put a a", "take c a"]])
        told = [hall.turn(0) for again in range(8)]
        self.assertEqual(told, [("seen", 0, 0, 5), ("gone", 1), ("done", 2), ("seen", 0, 0, 0), ("gone", 1),
                                ("done", 2), ("seen", 0, 0, 0), ("done", 1)])


class AgreesWithAloneTest(OneHandCase):
    """Deeds made at will: one hand by itself goes just as the deed goes that is done alone."""

    def made(self, chance, depth):
        return [self.made_part(chance, depth) for again in range(chance.randrange(5))]

    def made_part(self, chance, depth):
        slot, one, other = (chance.choice("abcd") for again in range(3))
        kind = chance.randrange(16 if depth > 0 else 10)
        if kind < 2:
            return Let(slot, chance.choice((0, 1, 2, 5, WIDE - 1)))
        if kind < 4:
            return Reckon(chance.choice(("plus", "minus", "times", "less", "same")), slot, one, other)
        if kind < 6:
            return Take(slot, one)
        if kind < 8:
            return Put(one, slot)
        if kind == 8:
            return Throw(chance.choice("nm"), slot)
        if kind == 9:
            return Wait()
        parts, others = self.made(chance, depth - 1), self.made(chance, depth - 1)
        if kind < 12:
            return If(slot, parts, others)
        if kind < 14:
            return Either(parts, others)
        return Try(parts, chance.choice("nm"), slot, others)

    def made_text(self, chance):
        while True:
            deed = self.made(chance, 4)
            if sum(part.long() for part in deed) < 80:
                return shown(deed)

    def done_by_turns(self, hall):
        deeds = hall.which(0)
        while hall.state(0) == "awake" and hall.which(0) == deeds:
            before, saw = hall.boxes(), hall.saw(0)
            told = hall.turn(0)
        return told, before, saw

    def test_deeds_made_at_will(self):
        chance = random.Random(17)
        ends = {"done": 0, "asleep": 0, "fell": 0}
        for again in range(600):
            texts = [self.made_text(chance) for deed in range(5)]
            boxes = [chance.randrange(4) for box in range(chance.randrange(1, 5))]
            hall, now = Hall(boxes, [texts]), [0] * 8
            for deed, text in enumerate(texts):
                end, saw, wrote, after = alone(read(text), boxes, now)
                told, before, seen = self.done_by_turns(hall)
                ends[told[0]] += 1
                self.assertEqual((before, seen), (boxes, saw), text)
                if told[0] == "asleep":
                    self.assertEqual((end, hall.boxes(), len(hall.journal())), (("waits",), boxes, deed), text)
                    break
                self.assertEqual(told[0], end[0])
                self.assertEqual(hall.journal()[deed:], [(0, deed, end, saw, wrote, after)], text)
                self.assertEqual(hall.slots(0), after)
                boxes, now = [dict(wrote).get(box, boxes[box]) for box in range(len(boxes))], after
                self.assertEqual(hall.boxes(), boxes)
        self.assertGreater(min(ends.values()), 200, ends)


if __name__ == "__main__":
    unittest.main()
