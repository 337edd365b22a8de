"""Halls as they are made: points 2, 14 and 15."""

import unittest

from retryhall.errors import HallError, NoBoxes, NoDeed, NoHand, NoHands
from retryhall.hall import Hall
from retryhall.words import WIDE

NO_NUMBERS = (-1, -WIDE, WIDE, WIDE + 1, 10 ** 100, True, False, None, "", "5", (), (5,), [], [5], {}, 1.5, 0.0,
              float("nan"), object(), int, b"5")
NO_DEEDS = ("wat", "wait ;", " wait", "wait ", "let a 18446744073709551616", "let i 1", "if a ( wait )", " ",
            "either ( wait ) or ( wait", "wait\n", "/")
NO_HANDS = (2, 3, 10 ** 30, -1, -2, "0", "", "a", None, True, False, [], [0], (0,), {}, 0.0, 1.5, object())


class RefusedTest(unittest.TestCase):
    def refused(self, error, boxes, hands):
        with self.assertRaises(HallError) as caught:
            Hall(boxes, hands)
        self.assertIs(type(caught.exception), error, (boxes, hands))

    def test_how_many_boxes(self):
        self.refused(NoBoxes, [], [[]])
        self.refused(NoBoxes, [0] * 17, [[]])
        self.refused(NoBoxes, [0] * 100, [[]])
        for many in range(1, 17):
            boxes = list(range(many))
            hall = Hall(boxes, [["wait"]])
            self.assertEqual(hall.boxes(), boxes)
            self.assertEqual(hall.stamps(), [0] * many)

    def test_what_a_box_is(self):
        for thing in NO_NUMBERS:
            self.refused(NoBoxes, [thing], [[]])
            self.refused(NoBoxes, [thing, 1, 2], [[]])
            self.refused(NoBoxes, [1, 2, thing], [[]])
            self.refused(NoBoxes, [1, thing, 2], [[]])
            self.refused(NoBoxes, [0] * 15 + [thing], [[]])
        self.assertEqual(Hall([0, WIDE - 1], [[]]).boxes(), [0, WIDE - 1])

    def test_how_many_hands(self):
        self.refused(NoHands, [0], [])
        self.refused(NoHands, [0], [[]] * 9)
        self.refused(NoHands, [0], [["wait"]] * 9)
        for many in range(1, 9):
            self.assertEqual(Hall([0], [["wait"]] * many).hands(), many)

    def test_how_many_deeds(self):
        self.refused(NoHands, [0], [["wait"] * 7])
        self.refused(NoHands, [0], [[""] * 7, []])
        self.refused(NoHands, [0], [[], ["wait"], [""] * 7])
        self.refused(NoHands, [0], [[]] * 7 + [["wait"] * 7])
        for many in range(7):
            hall = Hall([0], [[""] * many])
            for again in range(many):
                self.assertEqual(hall.which(0), again)
                self.assertEqual(hall.turn(0), ("done", 0))
            self.assertEqual((hall.state(0), hall.which(0)), ("ended", many))

    def test_what_a_deed_is(self):
        for text in NO_DEEDS:
            self.refused(NoDeed, [0], [[text]])
            self.refused(NoDeed, [0], [["wait", text]])
            self.refused(NoDeed, [0], [[], ["wait"], [text, "wait"]])
            self.refused(NoDeed, [0], [["wait"] * 5 + [text]])
            self.refused(NoDeed, [0], [["wait"]] * 7 + [["", text]])

    def test_deeds_that_are_let_but_for_one_step(self):
        self.refused(NoDeed, [0], [[" ; ".join(["wait"] * 80)]])
        Hall([0], [[" ; ".join(["wait"] * 79)]])
        deep = "either ( " * 8 + "wait" + " ) or ( )" * 8
        Hall([0], [[deep]])
        self.refused(NoDeed, [0], [["either ( " + deep + " ) or ( )"]])

    def test_the_first_refusal_in_the_order_goes(self):
        for boxes in ([], [0] * 17, [None], [0, True], [WIDE, 0]):
            for hands in ([], [[]] * 9, [[""] * 7], [["wat"]], [["wat"] * 7], [["wat"]] * 9):
                self.refused(NoBoxes, boxes, hands)
        self.refused(NoHands, [0], [["wat"]] * 9)
        self.refused(NoHands, [0], [["wat"] * 7])
        self.refused(NoHands, [0], [["wat"], [""] * 7])
        self.refused(NoHands, [0], [[""] * 7, ["wat"]])


class FreshTest(unittest.TestCase):
    def test_what_a_fresh_hall_tells(self):
        hall = Hall([3, 9, WIDE - 1], [["wait", "let a 1"], [], [""]])
        self.assertEqual(hall.boxes(), [3, 9, WIDE - 1])
        self.assertEqual(hall.stamps(), [0, 0, 0])
        self.assertEqual(hall.hands(), 3)
        self.assertEqual([hall.state(hand) for hand in range(3)], ["awake", "ended", "awake"])
        self.assertEqual([hall.which(hand) for hand in range(3)], [0, 0, 0])
        for hand in range(3):
            self.assertEqual(hall.slots(hand), [0] * 8)
            self.assertEqual(hall.saw(hand), [])
        self.assertEqual(hall.journal(), [])

    def test_the_kinds(self):
        hall = Hall([3], [["let a 0 ; take b a ; put a b"]])
        for again in range(4):
            self.assertIs(type(hall.turn(0)), tuple)
        for told in (hall.boxes(), hall.stamps(), hall.slots(0), hall.saw(0), hall.journal()):
            self.assertIs(type(told), list)
        self.assertEqual([type(part) for part in hall.journal()[0]], [int, int, tuple, list, list, list])
        self.assertEqual([type(pair) for pair in hall.journal()[0][3] + hall.journal()[0][4]], [tuple, tuple])
        self.assertIs(type(hall.state(0)), str)
        self.assertIs(type(hall.hands()), int)
        self.assertIs(type(hall.which(0)), int)

    def test_a_hand_without_deeds_has_ended(self):
        hall = Hall([3], [[]])
        self.assertEqual((hall.state(0), hall.which(0), hall.saw(0)), ("ended", 0, []))
        self.assertEqual(hall.turn(0), ("idle",))

    def test_a_hand_with_an_empty_deed_is_awake(self):
        hall = Hall([3], [[""]])
        self.assertEqual((hall.state(0), hall.which(0)), ("awake", 0))
        self.assertEqual(hall.turn(0), ("done", 0))
        self.assertEqual((hall.state(0), hall.which(0)), ("ended", 1))

    def test_a_text_for_several_hands(self):
        texts = ["plus a a b ; let b 1", ""]
        hall = Hall([3], [texts, texts])
        hall.turn(0)
        hall.turn(0)
        self.assertEqual((hall.slots(0), hall.slots(1)), ([0, 1] + [0] * 6, [0] * 8))
        self.assertEqual(hall.turn(1), ("gone", 0))


class NoHandTest(unittest.TestCase):
    def asked(self, hall):
        return (hall.turn, hall.state, hall.which, hall.slots, hall.saw)

    def test_no_such_hand(self):
        hall = Hall([3, 4], [["let a 1 ; take b a ; put c a", "wait"], ["wait"]])
        hall.turn(0)
        hall.turn(0)
        for thing in NO_HANDS:
            for ask in self.asked(hall):
                with self.assertRaises(HallError) as caught:
                    ask(thing)
                self.assertIs(type(caught.exception), NoHand, (ask, thing))
        self.assertEqual(hall.saw(0), [(1, 4)])
        self.assertEqual(hall.turn(0), ("gone", 2))
        self.assertEqual([hall.state(0), hall.state(1)], ["awake", "awake"])
        self.assertEqual(hall.journal(), [])

    def test_the_last_hand_and_the_one_behind(self):
        for many in range(1, 9):
            hall = Hall([3], [["wait"]] * many)
            self.assertEqual(hall.turn(many - 1), ("asleep", 0))
            for ask in self.asked(hall):
                self.assertRaises(NoHand, ask, many)

    def test_a_hand_that_ended_is_one(self):
        hall = Hall([3], [[], []])
        self.assertEqual(hall.turn(1), ("idle",))
        self.assertRaises(NoHand, hall.turn, 2)


class OwnListsTest(unittest.TestCase):
    def test_what_is_handed_in_stays(self):
        boxes, first, second = [3, 4], ["let a 1 ; put a a", "wait"], []
        hands = [first, second]
        hall = Hall(boxes, hands)
        for again in range(4):
            hall.turn(0)
        self.assertEqual(hall.boxes(), [3, 1])
        self.assertEqual(boxes, [3, 4])
        self.assertEqual(hands, [["let a 1 ; put a a", "wait"], []])
        self.assertIs(hands[0], first)
        self.assertIs(hands[1], second)

    def test_what_is_refused_stays_too(self):
        boxes, hands = [3, None], [["wat"] * 7, []]
        self.assertRaises(NoBoxes, Hall, boxes, hands)
        self.assertEqual((boxes, hands), ([3, None], [["wat"] * 7, []]))

    def test_changed_behind_the_call_they_change_nothing(self):
        boxes, hands = [3, 4], [["let a 1 ; take b a", "let c 2"], []]
        hall = Hall(boxes, hands)
        boxes[1] = 77
        boxes.append(5)
        hands[0][0] = "wat"
        hands[0].clear()
        hands[1].append("wait")
        hands.append(["wait"])
        self.assertEqual((hall.boxes(), hall.hands(), hall.state(1)), ([3, 4], 2, "ended"))
        told = [hall.turn(0) for again in range(5)]
        self.assertEqual(told, [("gone", 0), ("seen", 1, 1, 4), ("done", 2), ("gone", 0), ("done", 1)])

    def test_one_list_for_two_halls(self):
        boxes, hands = [3], [["let b 9 ; put a b"]]
        one, other = Hall(boxes, hands), Hall(boxes, hands)
        for again in range(3):
            one.turn(0)
        self.assertEqual((one.boxes(), one.stamps(), one.state(0)), ([9], [1], "ended"))
        self.assertEqual((other.boxes(), other.stamps(), other.state(0)), ([3], [0], "awake"))
        self.assertEqual((other.journal(), other.slots(0)), ([], [0] * 8))

    def hall_under_way(self):
        hall = Hall([3, 4], [["let a 1 ; take b a ; put a a", "take c a ; wait"], ["let a 1 ; take b a ; wait"]])
        for hand in (0, 0, 0, 0, 0, 1, 1, 1):
            hall.turn(hand)
        return hall

    def told(self, hall):
        return (hall.boxes(), hall.stamps(), hall.slots(0), hall.saw(0), hall.slots(1), hall.saw(1), hall.journal())

    def test_what_the_asker_does_changes_nothing(self):
        hall = self.hall_under_way()
        before = self.told(hall)
        self.assertEqual(before, (
            [3, 1], [0, 1], [1, 4, 1] + [0] * 5, [(1, 1)], [1, 1] + [0] * 6, [(1, 1)],
            [(0, 0, ("done",), [(1, 4)], [(1, 1)], [1, 4] + [0] * 6)]))
        for told in self.told(hall):
            told[0] = 99
            told.append(98)
        for entry in hall.journal():
            for part in entry[3:]:
                part[0] = 97
                part.append(96)
        for told in self.told(hall):
            told.clear()
        for entry in hall.journal():
            for part in entry[3:]:
                part.clear()
        self.assertEqual(self.told(hall), before)
        self.assertEqual((hall.state(1), hall.turn(0)), ("asleep", ("asleep", 1)))

    def test_lists_told_stay_as_they_were_told(self):
        hall = Hall([3, 4], [["let a 1 ; take b a ; put a a", "let c 5 ; put a c ; take d e"], ["put a b"]])
        kept, copies = [], []
        for hand in (0, 0, 0, 0, 0, 0, 0, 1, 1, 0, 0):
            kept.append(self.told(hall))
            copies.append(repr(kept[-1]))
            hall.turn(hand)
        self.assertEqual([repr(told) for told in kept], copies)
        self.assertGreater(len(set(copies)), 6)

    def test_lists_told_twice_are_two(self):
        hall = self.hall_under_way()
        for one, other in zip(self.told(hall), self.told(hall)):
            self.assertEqual(one, other)
            self.assertIsNot(one, other)
        for one, other in zip(hall.journal()[0][3:], hall.journal()[0][3:]):
            self.assertIsNot(one, other)

    def test_lists_of_one_entry_are_its_own(self):
        # The slots behind a deed, and the next deed's, are alike at first.
        hall = Hall([3], [["let a 1", "let a 2"]])
        hall.turn(0)
        hall.turn(0)
        entry = hall.journal()[0]
        hall.turn(0)
        self.assertEqual(entry[5], [1] + [0] * 7)
        self.assertEqual(hall.journal()[0][5], [1] + [0] * 7)
        self.assertEqual(hall.slots(0), [2] + [0] * 7)


if __name__ == "__main__":
    unittest.main()
