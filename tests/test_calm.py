"""Calm, and the most turns: points 2, 21 and 22."""

import random
import unittest

from retryhall.calm import calmed, is_calm, most
from retryhall.errors import HallError, NoDeed, NoHands
from retryhall.hall import Hall

SEVEN = "let b 7 ; put a b"
WAITS_FOR_0 = "take b a ; if b ( ) else ( wait )"
GROWS = "let b 1 ; take c a ; plus c c b ; put a c"


def told_of(hall):
    return (hall.boxes(), hall.stamps(), hall.journal(),
            [(hall.state(hand), hall.which(hand), hall.slots(hand), hall.saw(hand)) for hand in range(hall.hands())])


class IsCalmTest(unittest.TestCase):
    def test_no_deeds(self):
        self.assertIs(is_calm(Hall([5], [[]])), True)
        self.assertIs(is_calm(Hall([5], [[], [], []])), True)

    def test_ahead_and_behind(self):
        hall = Hall([5], [[""]])
        self.assertIs(is_calm(hall), False)
        hall.turn(0)
        self.assertIs(is_calm(hall), True)

    def test_one_awake_among_others(self):
        for awake in range(4):
            hands = [[]] * awake + [["wait"]] + [[]] * (3 - awake)
            hall = Hall([5], hands)
            self.assertIs(is_calm(hall), False)
            hall.turn(awake)
            self.assertIs(is_calm(hall), True)

    def test_asleep_is_calm_and_woken_is_not(self):
        hall = Hall([0], [[WAITS_FOR_0], [SEVEN]])
        for hand in (0, 0, 0, 1, 1):
            hall.turn(hand)
            self.assertIs(is_calm(hall), False)
        hall.turn(1)
        self.assertEqual([hall.state(0), hall.state(1)], ["awake", "ended"])
        self.assertIs(is_calm(hall), False)
        for again in range(4):
            hall.turn(0)
        self.assertIs(is_calm(hall), True)

    def test_asking_changes_nothing(self):
        hall = Hall([0], [[WAITS_FOR_0], [SEVEN]])
        hall.turn(0)
        before = told_of(hall)
        is_calm(hall)
        self.assertEqual(told_of(hall), before)


class CalmedTest(unittest.TestCase):
    def test_a_calm_hall(self):
        hall = Hall([5], [[], []])
        told = calmed(hall)
        self.assertIs(type(told), list)
        self.assertEqual(told, [])
        hall = Hall([5], [["wait"], []])
        hall.turn(0)
        self.assertEqual(calmed(hall), [])

    def test_one_hand(self):
        hall = Hall([5], [["take b a", "throw n b", "wait", ""]])
        self.assertEqual(calmed(hall), [(0, ("seen", 0, 0, 5)), (0, ("done", 1)), (0, ("fell", 0)), (0, ("asleep", 0))])
        self.assertEqual((hall.state(0), hall.which(0)), ("asleep", 2))

    def test_rounds_from_hand_0_on(self):
        hall = Hall([5], [["let a 1"], [], ["", "let a 2", ""], ["wait"]])
        self.assertEqual(calmed(hall), [
            (0, ("gone", 0)), (2, ("done", 0)), (3, ("asleep", 0)), (0, ("done", 1)), (2, ("gone", 0)),
            (2, ("done", 1)), (2, ("done", 0))])
        self.assertIs(is_calm(hall), True)

    def test_one_woken_in_a_round_behind_its_place(self):
        # Hand 0 is woken by hand 1, so its turn comes in the next round.
        hall = Hall([0], [[WAITS_FOR_0], ["let c 1 ; let c 2 ; let b 7 ; put a b", "let d 1"]])
        self.assertEqual(calmed(hall), [
            (0, ("seen", 0, 0, 0)), (1, ("gone", 0)), (0, ("gone", 1)), (1, ("gone", 1)), (0, ("asleep", 3)),
            (1, ("gone", 2)), (1, ("gone", 3)), (1, ("done", 4)), (0, ("seen", 0, 0, 7)), (1, ("gone", 0)),
            (0, ("gone", 1)), (1, ("done", 1)), (0, ("gone", 2)), (0, ("done", 4))])

    def test_one_woken_in_a_round_ahead_of_its_place(self):
        # Hand 1 is woken by hand 0 and is awake when its place comes in the same round.
        hall = Hall([0], [["let c 1 ; let c 2 ; let b 7 ; put a b"], [WAITS_FOR_0]])
        self.assertEqual(calmed(hall), [
            (0, ("gone", 0)), (1, ("seen", 0, 0, 0)), (0, ("gone", 1)), (1, ("gone", 1)), (0, ("gone", 2)),
            (1, ("asleep", 3)), (0, ("gone", 3)), (0, ("done", 4)), (1, ("seen", 0, 0, 7)), (1, ("gone", 1)),
            (1, ("gone", 2)), (1, ("done", 4))])

    def test_anew_in_a_round(self):
        hall = Hall([5], [[GROWS], [GROWS]])
        told = calmed(hall)
        self.assertEqual(told[8:10], [(0, ("done", 4)), (1, ("anew", 4))])
        self.assertEqual(len(told), 5 + 10)
        self.assertEqual(hall.boxes(), [7])

    def test_a_hall_under_way(self):
        hall = Hall([5], [["let a 1 ; let b 1"], [""]])
        hall.turn(0)
        self.assertEqual(calmed(hall), [(0, ("gone", 1)), (1, ("done", 0)), (0, ("done", 2))])

    def test_calmed_again(self):
        hall = Hall([0], [[WAITS_FOR_0], [SEVEN], ["wait"]])
        self.assertGreater(len(calmed(hall)), 0)
        before = told_of(hall)
        self.assertEqual(calmed(hall), [])
        self.assertEqual(told_of(hall), before)

    def test_what_is_told_is_the_askers_own(self):
        hall = Hall([5], [["let a 1"]])
        told = calmed(hall)
        before = told_of(hall)
        told.clear()
        self.assertEqual(told_of(hall), before)
        self.assertEqual(calmed(hall), [])
        self.assertIsNot(calmed(hall), calmed(hall))

    def by_rounds(self, hall):
        told = []
        while any(hall.state(hand) == "awake" for hand in range(hall.hands())):
            for hand in range(hall.hands()):
                if hall.state(hand) == "awake":
                    told.append((hand, hall.turn(hand)))
        return told

    def test_against_turns_given_round_by_round(self):
        chance = random.Random(31)
        texts = ("", SEVEN, WAITS_FOR_0, GROWS, "wait", "take b a ; throw n b", "put a c", "take b a ; take c b",
                 "either ( take b a ; if b ( wait ) else ( ) ) or ( let a 1 ; put a a )",
                 "try ( take b a ; throw n b ) on n c ( put a c )")
        for again in range(300):
            boxes = [chance.randrange(3) for box in range(chance.randrange(1, 4))]
            hands = [[chance.choice(texts) for deed in range(chance.randrange(5))]
                     for hand in range(chance.randrange(1, 6))]
            hall, other = Hall(boxes, hands), Hall(boxes, hands)
            for hand in [chance.randrange(len(hands)) for turn in range(chance.randrange(12))]:
                self.assertEqual(hall.turn(hand), other.turn(hand))
            told = calmed(hall)
            self.assertEqual(told, self.by_rounds(other))
            self.assertEqual(told_of(hall), told_of(other))
            self.assertTrue(is_calm(hall))
            self.assertLessEqual(len(told), most(hands))
            self.assertNotIn(("idle",), [turn for hand, turn in told])
            for pair in told:
                self.assertEqual([type(part) for part in pair], [int, tuple])


class MostTest(unittest.TestCase):
    def refused(self, error, hands):
        with self.assertRaises(HallError) as caught:
            most(hands)
        self.assertIs(type(caught.exception), error, hands)

    def test_counted_by_hand(self):
        self.assertEqual(most([[]]), 0)
        self.assertEqual(most([[]] * 8), 0)
        self.assertEqual(most([[""]]), 1)
        self.assertEqual(most([["wait"]]), 2)
        self.assertEqual(most([["", "wait", GROWS]]), 1 + 2 + 5)
        self.assertEqual(most([[""], [""]]), 1 * 2 + 1 * 2)
        self.assertEqual(most([["", "wait"], [GROWS]]), (1 + 2) * 2 + 5 * 3)
        self.assertEqual(most([["wait"], [], ["", ""], [GROWS]]), 2 * 4 + 2 * 3 + 5 * 4)
        self.assertEqual(most([["if a ( wait ) else ( )", "either ( ) or ( )"], ["try ( wait ) on n a ( wait )"]]),
                         (4 + 4) * 2 + 6 * 3)

    def test_the_greatest(self):
        long = " ; ".join(["wait"] * 79)
        self.assertEqual(most([[long] * 6] * 8), 48 * 80 * 43)

    def test_how_many_hands_and_deeds(self):
        self.refused(NoHands, [])
        self.refused(NoHands, [[]] * 9)
        self.refused(NoHands, [[""] * 7])
        self.refused(NoHands, [[], [""], ["wait"] * 7])
        self.assertEqual(most([[""] * 6]), 6)

    def test_what_a_deed_is(self):
        for text in ("wat", " wait", "wait ;", "let a 18446744073709551616", " ; ".join(["wait"] * 80)):
            self.refused(NoDeed, [[text]])
            self.refused(NoDeed, [[], ["wait", text]])

    def test_the_first_refusal_goes(self):
        self.refused(NoHands, [["wat"]] * 9)
        self.refused(NoHands, [["wat"] * 7])
        self.refused(NoHands, [["wat"], [""] * 7])

    def test_what_is_handed_in_stays(self):
        hands = [["wait", ""], []]
        most(hands)
        self.assertEqual(hands, [["wait", ""], []])


if __name__ == "__main__":
    unittest.main()
