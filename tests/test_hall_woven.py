"""Two hands and more, woven: points 3 and 15 to 20."""

import unittest

from retryhall.errors import NoHand
from retryhall.hall import Hall

IDLE = ("idle",)
NOUGHTS = [0] * 8
# One that lays box 0 down: with the number 7, with the number that it has.
SEVEN = "let b 7 ; put a b"
SAME = "take b a ; put a b"
# One that lays box 1 down.
SEVEN_AT_1 = "let b 7 ; let a 1 ; put a b"


def slots(**numbers):
    return [numbers.get(slot, 0) for slot in "abcdefgh"]


class WovenCase(unittest.TestCase):
    def turns(self, hall, hand, *wanted):
        self.assertEqual([hall.turn(hand) for again in wanted], list(wanted))

    def whole_deed(self, hall, hand):
        # All turns of the deed under way, none of which may be begun anew.
        deed = hall.which(hand)
        while hall.which(hand) == deed:
            self.assertIn(hall.turn(hand)[0], ("gone", "seen", "done", "fell"))

    def hall_with(self, text, other, boxes=(5, 6)):
        # Hand 1 is the one that lays down; it never sees what hand 0 writes.
        return Hall(list(boxes), [[text, "let h 9"], [other]])

    def check_anew(self, hall, row, now):
        before = (hall.boxes(), hall.stamps(), hall.journal())
        self.assertEqual(hall.turn(0), ("anew", row))
        self.assertEqual((hall.slots(0), hall.saw(0)), (now, []))
        self.assertEqual((hall.state(0), hall.which(0)), ("awake", 0))
        self.assertEqual((hall.boxes(), hall.stamps(), hall.journal()), before)


class LookedOverTest(WovenCase):
    """Each of the four rows that are looked over, in a stale deed and in one that is well."""

    def test_a_take_that_is_stale(self):
        hall = self.hall_with("take b a ; let c 1 ; take d c", SEVEN)
        self.turns(hall, 0, ("seen", 0, 0, 5), ("gone", 1))
        self.whole_deed(hall, 1)
        self.assertEqual((hall.slots(0), hall.saw(0)), (slots(b=5, c=1), [(0, 5)]))
        self.check_anew(hall, 2, NOUGHTS)
        self.turns(hall, 0, ("seen", 0, 0, 7), ("gone", 1), ("seen", 2, 1, 6), ("done", 3))
        self.assertEqual(hall.journal()[1:], [(0, 0, ("done",), [(0, 7), (1, 6)], [], slots(b=7, c=1, d=6))])

    def test_a_take_of_the_very_box_that_is_stale(self):
        hall = self.hall_with("take b a ; take c a", SEVEN)
        self.turns(hall, 0, ("seen", 0, 0, 5))
        self.whole_deed(hall, 1)
        self.check_anew(hall, 1, NOUGHTS)
        self.turns(hall, 0, ("seen", 0, 0, 7), ("seen", 1, 0, 7), ("done", 2))

    def test_a_take_that_is_well(self):
        hall = self.hall_with("take b a ; let c 1 ; take d c", SEVEN_AT_1)
        self.turns(hall, 0, ("seen", 0, 0, 5), ("gone", 1))
        self.whole_deed(hall, 1)
        self.turns(hall, 0, ("seen", 2, 1, 7), ("done", 3))
        self.assertEqual(hall.journal()[1:], [(0, 0, ("done",), [(0, 5), (1, 7)], [], slots(b=5, c=1, d=7))])

    def test_a_first_take_behind_a_laying_down_is_well(self):
        hall = self.hall_with("let c 1 ; take b a", SEVEN)
        self.turns(hall, 0, ("gone", 0))
        self.whole_deed(hall, 1)
        self.turns(hall, 0, ("seen", 1, 0, 7), ("done", 2))

    def test_a_wait_that_is_stale(self):
        hall = self.hall_with("take b a ; wait", SEVEN)
        self.turns(hall, 0, ("seen", 0, 0, 5))
        self.whole_deed(hall, 1)
        self.check_anew(hall, 1, NOUGHTS)
        self.turns(hall, 0, ("seen", 0, 0, 7), ("asleep", 1), IDLE)

    def test_a_wait_in_a_try_that_is_stale(self):
        hall = self.hall_with("try ( take b a ; wait ) on n c ( )", SEVEN)
        self.turns(hall, 0, ("gone", 0), ("seen", 1, 0, 5))
        self.whole_deed(hall, 1)
        self.check_anew(hall, 2, NOUGHTS)
        self.turns(hall, 0, ("gone", 0), ("seen", 1, 0, 7), ("asleep", 2))

    def test_a_wait_in_an_eithers_other_side_that_is_stale(self):
        hall = self.hall_with("either ( take b a ; wait ) or ( wait )", SEVEN)
        self.turns(hall, 0, ("gone", 0), ("seen", 1, 0, 5))
        self.whole_deed(hall, 1)
        self.turns(hall, 0, ("gone", 2))
        self.check_anew(hall, 5, NOUGHTS)

    def test_a_wait_that_is_well(self):
        hall = self.hall_with("take b a ; wait", SEVEN_AT_1)
        self.turns(hall, 0, ("seen", 0, 0, 5))
        self.whole_deed(hall, 1)
        self.turns(hall, 0, ("asleep", 1))

    def test_a_throw_that_is_stale(self):
        hall = self.hall_with("take b a ; throw n b", SEVEN)
        self.turns(hall, 0, ("seen", 0, 0, 5))
        self.whole_deed(hall, 1)
        self.check_anew(hall, 1, NOUGHTS)
        self.turns(hall, 0, ("seen", 0, 0, 7), ("fell", 1))
        self.assertEqual(hall.journal()[1:], [(0, 0, ("fell", "n", 7), [(0, 7)], [], NOUGHTS)])

    def test_a_throw_in_a_try_of_another_name_that_is_stale(self):
        hall = self.hall_with("either ( try ( take b a ; throw n b ) on m c ( ) ) or ( )", SEVEN)
        self.turns(hall, 0, ("gone", 0), ("gone", 1), ("seen", 2, 0, 5))
        self.whole_deed(hall, 1)
        self.check_anew(hall, 3, NOUGHTS)

    def test_a_throw_that_is_well(self):
        hall = self.hall_with("take b a ; throw n b", SEVEN_AT_1)
        self.turns(hall, 0, ("seen", 0, 0, 5))
        self.whole_deed(hall, 1)
        self.turns(hall, 0, ("fell", 1))
        self.assertEqual(hall.journal()[1:], [(0, 0, ("fell", "n", 5), [(0, 5)], [], NOUGHTS)])

    def test_a_lay_that_is_stale(self):
        hall = self.hall_with("take b a ; let c 1 ; put c b", SEVEN)
        self.turns(hall, 0, ("seen", 0, 0, 5), ("gone", 1), ("gone", 2))
        self.whole_deed(hall, 1)
        self.check_anew(hall, 3, NOUGHTS)
        self.assertEqual(hall.boxes(), [7, 6])
        self.turns(hall, 0, ("seen", 0, 0, 7), ("gone", 1), ("gone", 2), ("done", 3))
        self.assertEqual((hall.boxes(), hall.stamps()), ([7, 7], [1, 1]))

    def test_a_lay_without_writings_that_is_stale(self):
        hall = self.hall_with("take b a", SEVEN)
        self.turns(hall, 0, ("seen", 0, 0, 5))
        self.whole_deed(hall, 1)
        self.check_anew(hall, 1, NOUGHTS)

    def test_a_lay_that_is_well(self):
        hall = self.hall_with("take b a ; put a c", SEVEN_AT_1)
        self.turns(hall, 0, ("seen", 0, 0, 5), ("gone", 1))
        self.whole_deed(hall, 1)
        self.turns(hall, 0, ("done", 2))
        self.assertEqual((hall.boxes(), hall.stamps()), ([0, 7], [1, 1]))

    def test_a_lay_of_a_deed_that_saw_nothing_is_well(self):
        hall = self.hall_with("let b 3 ; put a b", SEVEN)
        self.turns(hall, 0, ("gone", 0), ("gone", 1))
        self.whole_deed(hall, 1)
        self.turns(hall, 0, ("done", 2))
        self.assertEqual((hall.boxes(), hall.stamps()), ([3, 6], [2, 0]))

    def test_a_deed_that_took_its_own_writing_alone_is_well(self):
        hall = self.hall_with("let b 3 ; put a b ; take c a", SEVEN)
        self.turns(hall, 0, ("gone", 0), ("gone", 1), ("gone", 2))
        self.whole_deed(hall, 1)
        self.turns(hall, 0, ("done", 3))
        self.assertEqual(hall.slots(0), slots(b=3, c=3))

    def test_what_a_side_saw_that_was_left_still_counts(self):
        hall = self.hall_with("either ( take b a ; wait ) or ( let c 1 )", SEVEN)
        self.turns(hall, 0, ("gone", 0), ("seen", 1, 0, 5), ("gone", 2), ("gone", 5))
        self.whole_deed(hall, 1)
        self.check_anew(hall, 6, NOUGHTS)
        hall = self.hall_with("try ( take b a ; throw n b ) on n c ( )", SEVEN)
        self.turns(hall, 0, ("gone", 0), ("seen", 1, 0, 5), ("gone", 2))
        self.whole_deed(hall, 1)
        self.check_anew(hall, 5, NOUGHTS)

    def test_one_of_several_seen(self):
        boxes = [1, 2, 3]
        for laid in range(3):
            text = "let a %d ; put a b" % laid
            hall = Hall(boxes, [["take d a ; let b 1 ; take d b ; let b 2 ; take d b"], [text]])
            self.turns(hall, 0, ("seen", 0, 0, 1), ("gone", 1), ("seen", 2, 1, 2), ("gone", 3), ("seen", 4, 2, 3))
            self.whole_deed(hall, 1)
            self.check_anew(hall, 5, NOUGHTS)


class NotLookedOverTest(WovenCase):
    """Rows that are gone though the deed is stale."""

    def stale(self, ahead, row):
        # The deed sees box 0, goes the rows ahead, and is stale when its row of interest comes.
        text = "take b a ; " + "".join(part + " ; " for part in ahead) + row
        hall = self.hall_with(text, SEVEN)
        self.turns(hall, 0, ("seen", 0, 0, 5))
        for place in range(len(ahead)):
            self.turns(hall, 0, ("gone", 1 + place))
        self.whole_deed(hall, 1)
        return hall

    def test_plain_rows(self):
        for row in ("let c 1", "plus c b b", "minus c b b", "times c b b", "less c b b", "same c b b", "put a b",
                    "if b ( ) else ( )", "either ( ) or ( )", "try ( ) on n c ( )"):
            hall = self.stale([], row)
            self.turns(hall, 0, ("gone", 1))

    def test_a_take_of_its_own(self):
        hall = self.stale(["let c 3", "put a c"], "take d a")
        self.turns(hall, 0, ("gone", 3))
        self.assertEqual((hall.slots(0), hall.saw(0)), (slots(b=5, c=3, d=3), [(0, 5)]))
        self.check_anew(hall, 4, NOUGHTS)

    def test_a_take_of_what_was_dropped_is_looked_over(self):
        hall = self.hall_with("take b a ; either ( put a c ; wait ) or ( take d a )", SEVEN)
        self.turns(hall, 0, ("seen", 0, 0, 5), ("gone", 1), ("gone", 2), ("gone", 3))
        self.whole_deed(hall, 1)
        self.check_anew(hall, 6, NOUGHTS)

    def test_jumps_and_settle(self):
        hall = self.stale([], "if b ( let c 1 ) else ( ) ; either ( let d 1 ) or ( wait )")
        self.turns(hall, 0, ("gone", 1), ("gone", 2), ("gone", 3), ("gone", 4), ("gone", 5), ("gone", 6), ("gone", 7))
        self.check_anew(hall, 9, NOUGHTS)

    def test_a_wait_that_an_either_takes(self):
        hall = self.stale([], "either ( let c 1 ; try ( wait ) on n d ( ) ) or ( let e 1 )")
        self.turns(hall, 0, ("gone", 1), ("gone", 2), ("gone", 3), ("gone", 4), ("gone", 9))
        self.assertEqual(hall.slots(0), slots(b=5, e=1))
        self.check_anew(hall, 10, NOUGHTS)

    def test_a_throw_that_a_try_takes(self):
        hall = self.stale([], "try ( let c 1 ; either ( throw n c ) or ( ) ) on n d ( let e 1 )")
        self.turns(hall, 0, ("gone", 1), ("gone", 2), ("gone", 3), ("gone", 4), ("gone", 9))
        self.assertEqual(hall.slots(0), slots(b=5, d=1, e=1))
        self.check_anew(hall, 10, NOUGHTS)


class AnewTest(WovenCase):
    def test_a_box_laid_down_with_the_same_number(self):
        hall = self.hall_with("take b a", SAME)
        self.turns(hall, 0, ("seen", 0, 0, 5))
        self.whole_deed(hall, 1)
        self.assertEqual((hall.boxes(), hall.stamps()), ([5, 6], [1, 0]))
        self.check_anew(hall, 1, NOUGHTS)
        self.turns(hall, 0, ("seen", 0, 0, 5), ("done", 1))

    def test_a_box_laid_down_twice_so_that_it_is_as_before(self):
        hall = Hall([5], [["take b a"], ["let b 7 ; put a b", "let b 5 ; put a b"]])
        self.turns(hall, 0, ("seen", 0, 0, 5))
        self.whole_deed(hall, 1)
        self.whole_deed(hall, 1)
        self.assertEqual((hall.boxes(), hall.stamps()), ([5], [2]))
        self.check_anew(hall, 1, NOUGHTS)

    def test_a_deed_that_fell_makes_nothing_stale(self):
        hall = self.hall_with("take b a", "let b 7 ; put a b ; throw n b")
        self.turns(hall, 0, ("seen", 0, 0, 5))
        self.whole_deed(hall, 1)
        self.assertEqual((hall.boxes(), hall.stamps()), ([5, 6], [0, 0]))
        self.turns(hall, 0, ("done", 1))

    def test_a_deed_under_way_makes_nothing_stale(self):
        hall = self.hall_with("take b a ; take c a", SEVEN)
        self.turns(hall, 0, ("seen", 0, 0, 5))
        self.turns(hall, 1, ("gone", 0), ("gone", 1))
        self.turns(hall, 0, ("seen", 1, 0, 5), ("done", 2))
        self.turns(hall, 1, ("done", 2))

    def test_what_a_side_wrote_that_was_left_makes_nothing_stale(self):
        hall = self.hall_with("take b a", "either ( put a b ; wait ) or ( )")
        self.turns(hall, 0, ("seen", 0, 0, 5))
        self.whole_deed(hall, 1)
        self.turns(hall, 0, ("done", 1))

    def test_its_slots_are_those_of_its_first_begin(self):
        hall = Hall([5], [["let b 3 ; let c 4", "let b 1 ; take c a ; let d 2"], [SEVEN]])
        self.whole_deed(hall, 0)
        self.turns(hall, 0, ("gone", 0), ("seen", 1, 0, 5), ("gone", 2))
        self.assertEqual(hall.slots(0), slots(b=1, c=5, d=2))
        self.whole_deed(hall, 1)
        self.turns(hall, 0, ("anew", 3))
        self.assertEqual((hall.slots(0), hall.saw(0), hall.which(0)), (slots(b=3, c=4), [], 1))
        self.turns(hall, 0, ("gone", 0), ("seen", 1, 0, 7), ("gone", 2), ("done", 3))
        self.assertEqual(hall.journal()[-1], (0, 1, ("done",), [(0, 7)], [], slots(b=1, c=7, d=2)))

    def test_its_log_is_empty(self):
        # In the second going the box isn't written, so that the take sees it and nothing is laid down.
        text = "take b a ; same b b c ; if b ( put a d ; put c d ) else ( ) ; let c 1 ; take e c"
        hall = Hall([0, 6], [[text], ["let b 7 ; put a b"]])
        self.turns(hall, 0, ("seen", 0, 0, 0), ("gone", 1), ("gone", 2), ("gone", 3), ("gone", 4), ("gone", 5),
                   ("gone", 6))
        self.whole_deed(hall, 1)
        self.turns(hall, 0, ("anew", 7), ("seen", 0, 0, 7), ("gone", 1), ("gone", 2), ("gone", 6), ("seen", 7, 1, 6),
                   ("done", 8))
        self.assertEqual(hall.journal()[-1], (0, 0, ("done",), [(0, 7), (1, 6)], [], slots(c=1, e=6)))
        self.assertEqual((hall.boxes(), hall.stamps()), ([7, 6], [1, 0]))

    def test_its_layers_are_begun_again(self):
        # It is begun anew amid two layers; what it goes through then is taken by nothing of the first going.
        text = "take b a ; if b ( wait ) else ( either ( try ( let c 1 ; take d c ) on n e ( ) ) or ( ) )"
        hall = Hall([0, 6], [[text], [SEVEN]])
        self.turns(hall, 0, ("seen", 0, 0, 0), ("gone", 1), ("gone", 4), ("gone", 5), ("gone", 6))
        self.whole_deed(hall, 1)
        self.check_anew(hall, 7, NOUGHTS)
        self.turns(hall, 0, ("seen", 0, 0, 7), ("gone", 1), ("asleep", 2))

    def test_what_it_saw_in_the_first_going_counts_no_more(self):
        # The first going sees box 1, the second one doesn't.
        text = "take b a ; if b ( ) else ( let c 1 ; take d c )"
        hall = Hall([0, 6], [[text], ["let b 7 ; put a b", "let c 1 ; put c c"]])
        self.turns(hall, 0, ("seen", 0, 0, 0), ("gone", 1), ("gone", 3), ("seen", 4, 1, 6))
        self.whole_deed(hall, 1)
        self.turns(hall, 0, ("anew", 5), ("seen", 0, 0, 7), ("gone", 1), ("gone", 2))
        self.whole_deed(hall, 1)
        self.assertEqual(hall.saw(0), [(0, 7)])
        self.turns(hall, 0, ("done", 5))

    def test_anew_again_and_again(self):
        hall = Hall([5], [["take b a"], [SEVEN, "let b 8 ; put a b", "let b 9 ; put a b"]])
        for number in (5, 7, 8):
            self.turns(hall, 0, ("seen", 0, 0, number))
            self.whole_deed(hall, 1)
            self.check_anew(hall, 1, NOUGHTS)
        self.turns(hall, 0, ("seen", 0, 0, 9), ("done", 1))

    def test_two_that_grow_one_box(self):
        grow = "let b 1 ; take c a ; plus c c b ; put a c"
        hall = Hall([5], [[grow], [grow]])
        for again in range(4):
            self.assertEqual(hall.turn(0), hall.turn(1))
        self.turns(hall, 1, ("done", 4))
        self.turns(hall, 0, ("anew", 4), ("gone", 0), ("seen", 1, 0, 6), ("gone", 2), ("gone", 3), ("done", 4))
        self.assertEqual((hall.boxes(), hall.stamps()), ([7], [2]))
        self.assertEqual([entry[:2] for entry in hall.journal()], [(1, 0), (0, 0)])

    def test_only_the_deed_under_way_is_begun_anew(self):
        hall = Hall([5], [["take b a", "take c a"], [SEVEN]])
        self.whole_deed(hall, 0)
        self.turns(hall, 0, ("seen", 0, 0, 5))
        self.whole_deed(hall, 1)
        self.turns(hall, 0, ("anew", 1), ("seen", 0, 0, 7), ("done", 1))
        self.assertEqual([(entry[0], entry[1], entry[3]) for entry in hall.journal()],
                         [(0, 0, [(0, 5)]), (1, 0, []), (0, 1, [(0, 7)])])

    def test_hands_have_slots_of_their_own(self):
        hall = Hall([5], [["let a 1"], ["let b 2"], ["plus a a b"]])
        for hand in range(3):
            hall.turn(hand)
        self.assertEqual([hall.slots(hand) for hand in range(3)], [slots(a=1), slots(b=2), NOUGHTS])


class SleepTest(WovenCase):
    WAITS_FOR_0 = "let c 4 ; take b a ; if b ( ) else ( wait ) ; let d 1"

    def asleep(self, others, boxes=(0, 6)):
        hall = Hall(list(boxes), [["let h 2", self.WAITS_FOR_0]] + others)
        self.whole_deed(hall, 0)
        self.turns(hall, 0, ("gone", 0), ("seen", 1, 0, 0), ("gone", 2), ("asleep", 4))
        return hall

    def check_asleep(self, hall):
        self.assertEqual((hall.state(0), hall.which(0)), ("asleep", 1))
        self.assertEqual((hall.slots(0), hall.saw(0)), (slots(c=4, h=2), [(0, 0)]))
        self.assertEqual(hall.turn(0), IDLE)
        self.assertEqual((hall.slots(0), hall.saw(0)), (slots(c=4, h=2), [(0, 0)]))

    def check_woken(self, hall):
        self.assertEqual((hall.state(0), hall.which(0)), ("awake", 1))
        self.assertEqual((hall.slots(0), hall.saw(0)), (slots(h=2), []))

    def test_its_slots_and_what_it_saw_stay(self):
        hall = self.asleep([[SEVEN]])
        self.check_asleep(hall)
        self.turns(hall, 1, ("gone", 0), ("gone", 1))
        self.check_asleep(hall)

    def test_woken_by_a_box_that_it_saw(self):
        hall = self.asleep([[SEVEN]])
        self.whole_deed(hall, 1)
        self.check_woken(hall)
        self.turns(hall, 0, ("gone", 0), ("seen", 1, 0, 7), ("gone", 2), ("gone", 3), ("gone", 5), ("done", 6))
        self.assertEqual(hall.journal()[-1], (0, 1, ("done",), [(0, 7)], [], slots(b=7, c=4, d=1, h=2)))

    def test_woken_by_the_same_number(self):
        hall = self.asleep([[SAME]])
        self.whole_deed(hall, 1)
        self.check_woken(hall)
        self.turns(hall, 0, ("gone", 0), ("seen", 1, 0, 0), ("gone", 2), ("asleep", 4))
        self.check_asleep(hall)

    def test_woken_by_one_of_several_boxes(self):
        hall = self.asleep([["let a 1 ; put a a ; put b b"]])
        self.whole_deed(hall, 1)
        self.check_woken(hall)

    def test_not_woken_by_another_box(self):
        hall = self.asleep([[SEVEN_AT_1]])
        self.whole_deed(hall, 1)
        self.assertEqual(hall.stamps(), [0, 1])
        self.check_asleep(hall)

    def test_not_woken_by_a_deed_that_lays_nothing_down(self):
        hall = self.asleep([["take b a", "", "put a b ; throw n b", "either ( put a b ; wait ) or ( )"]])
        for again in range(4):
            self.whole_deed(hall, 1)
            self.check_asleep(hall)
        self.assertEqual(hall.state(1), "ended")

    def test_not_woken_by_a_box_that_it_only_wrote(self):
        hall = Hall([0], [["put a b ; take c a ; wait"], [SEVEN]])
        self.turns(hall, 0, ("gone", 0), ("gone", 1), ("asleep", 2))
        self.whole_deed(hall, 1)
        self.assertEqual((hall.boxes(), hall.state(0), hall.turn(0)), ([7], "asleep", IDLE))

    def test_never_woken_where_it_saw_nothing(self):
        hall = Hall([0], [["wait"], [SEVEN, SAME]])
        self.turns(hall, 0, ("asleep", 0))
        self.whole_deed(hall, 1)
        self.whole_deed(hall, 1)
        self.assertEqual((hall.state(0), hall.turn(0)), ("asleep", IDLE))

    def test_woken_by_what_a_side_saw_that_was_left(self):
        hall = Hall([0, 6], [["either ( take b a ; wait ) or ( let c 1 ; take b c ; wait )"], [SEVEN]])
        self.turns(hall, 0, ("gone", 0), ("seen", 1, 0, 0), ("gone", 2), ("gone", 5), ("seen", 6, 1, 6), ("asleep", 7))
        self.assertEqual(hall.saw(0), [(0, 0), (1, 6)])
        self.whole_deed(hall, 1)
        self.assertEqual((hall.state(0), hall.slots(0), hall.saw(0)), ("awake", NOUGHTS, []))

    def test_several_sleepers(self):
        hall = Hall([0, 6, 0], [["take b a ; wait"], ["let c 1 ; take b c ; wait"], [SEVEN], ["take b a ; wait"],
                                ["wait"], ["let c 2 ; take b c ; take d a ; wait"]])
        for hand in (0, 1, 3, 4, 5):
            while hall.state(hand) == "awake":
                hall.turn(hand)
        self.whole_deed(hall, 2)
        self.assertEqual([hall.state(hand) for hand in range(6)],
                         ["awake", "asleep", "ended", "awake", "asleep", "awake"])
        self.assertEqual([hall.saw(hand) for hand in range(6)], [[], [(1, 6)], [], [], [], []])

    def test_woken_and_asleep_again(self):
        hall = self.asleep([["let b 0 ; put a b", SEVEN]])
        self.whole_deed(hall, 1)
        self.check_woken(hall)
        self.turns(hall, 0, ("gone", 0), ("seen", 1, 0, 0), ("gone", 2), ("asleep", 4))
        self.check_asleep(hall)
        self.whole_deed(hall, 1)
        self.check_woken(hall)

    def test_one_that_is_awake_goes_on_where_it_is(self):
        # Only sleepers are begun anew by the laying down; the others find out at their next row looked over.
        hall = Hall([0], [["take b a ; let c 1 ; wait"], [SEVEN]])
        self.turns(hall, 0, ("seen", 0, 0, 0))
        self.whole_deed(hall, 1)
        self.assertEqual((hall.saw(0), hall.slots(0)), ([(0, 0)], NOUGHTS))
        self.turns(hall, 0, ("gone", 1), ("anew", 2), ("seen", 0, 0, 7), ("gone", 1), ("asleep", 2))

    def test_a_sleeper_with_a_layer_on_its_log(self):
        hall = Hall([0], [["try ( put a a ; let c 1 ; wait ) on n d ( )"], [SEVEN]])
        self.turns(hall, 0, ("gone", 0), ("gone", 1), ("gone", 2), ("asleep", 3))
        self.whole_deed(hall, 1)
        self.assertEqual((hall.state(0), hall.slots(0)), ("asleep", slots(c=1)))


class IdleTest(WovenCase):
    def test_idle_turns_do_nothing(self):
        hall = Hall([0, 6], [["take b a ; wait"], [], ["let a 1"]])
        self.turns(hall, 0, ("seen", 0, 0, 0), ("asleep", 1))

        def told():
            return (hall.boxes(), hall.stamps(), hall.journal(),
                    [(hall.state(hand), hall.which(hand), hall.slots(hand), hall.saw(hand)) for hand in range(3)])

        before = told()
        for hand in (0, 1, 0, 1, 1):
            self.assertEqual(hall.turn(hand), IDLE)
            self.assertEqual(told(), before)

    def test_no_such_hand_changes_nothing(self):
        hall = Hall([5], [["take b a ; put a c"], [SEVEN]])
        self.turns(hall, 0, ("seen", 0, 0, 5))
        for thing in (2, -1, "0", None, True, [0]):
            self.assertRaises(NoHand, hall.turn, thing)
        self.assertEqual((hall.saw(0), hall.state(1), hall.journal()), ([(0, 5)], "awake", []))
        self.turns(hall, 0, ("gone", 1), ("done", 2))

    def test_a_truth_gives_no_turn(self):
        hall = Hall([5], [["let a 1"], ["let a 1"]])
        self.assertRaises(NoHand, hall.turn, False)
        self.assertRaises(NoHand, hall.turn, True)
        self.assertEqual((hall.slots(0), hall.slots(1)), (NOUGHTS, NOUGHTS))


class JournalTest(WovenCase):
    def test_each_entrys_six_values(self):
        hall = Hall([5, 6], [
            ["let b 3 ; take c a ; put a b", "let d 1 ; take e d ; throw full e"], [],
            ["let a 1 ; take b a ; take c d ; put a c ; put d b"]])
        self.whole_deed(hall, 0)
        first = (0, 0, ("done",), [(0, 5)], [(0, 3)], slots(b=3, c=5))
        self.assertEqual(hall.journal(), [first])
        self.whole_deed(hall, 2)
        second = (2, 0, ("done",), [(0, 3), (1, 6)], [(0, 6), (1, 3)], slots(a=1, b=6, c=3))
        self.assertEqual(hall.journal(), [first, second])
        self.whole_deed(hall, 0)
        third = (0, 1, ("fell", "full", 3), [(1, 3)], [], slots(b=3, c=5))
        self.assertEqual(hall.journal(), [first, second, third])
        self.assertEqual((hall.boxes(), hall.stamps()), ([6, 3], [2, 1]))

    def test_rising_by_boxes(self):
        boxes = list(range(20, 36))
        rows = []
        for box in (15, 2, 10, 0, 9, 1):
            rows.append("let a %d ; take b a ; let a %d ; put a b" % (box, 15 - box))
        hall = Hall(boxes, [[" ; ".join(rows)]])
        self.whole_deed(hall, 0)
        entry = hall.journal()[0]
        # Box 0 is written ahead of its take, so it isn't seen; box 15 is seen ahead of its writing.
        self.assertEqual(entry[3], [(1, 21), (2, 22), (9, 29), (10, 30), (15, 35)])
        self.assertEqual(entry[4], [(0, 35), (5, 30), (6, 29), (13, 22), (14, 21), (15, 35)])

    def test_the_order_is_that_of_the_ends(self):
        hall = Hall([5], [["let a 1", "let a 2"], [""], ["throw n a"]])
        hall.turn(0)
        for hand in (2, 1, 0, 0, 0):
            hall.turn(hand)
        self.assertEqual([(entry[0], entry[1]) for entry in hall.journal()], [(2, 0), (1, 0), (0, 0), (0, 1)])

    def test_no_entry_of_a_deed_begun_anew_or_asleep(self):
        hall = Hall([0], [["take b a ; if b ( ) else ( wait )"], [SEVEN], ["take b a"]])
        self.turns(hall, 0, ("seen", 0, 0, 0), ("gone", 1), ("asleep", 3))
        self.turns(hall, 2, ("seen", 0, 0, 0))
        self.whole_deed(hall, 1)
        self.turns(hall, 2, ("anew", 1))
        self.assertEqual([entry[0] for entry in hall.journal()], [1])

    def test_entries_told_stay(self):
        hall = Hall([5], [[SEVEN, SAME, "throw n b"]])
        told = []
        for again in range(3):
            self.whole_deed(hall, 0)
            told.append(hall.journal())
        self.assertEqual(told[2], [
            (0, 0, ("done",), [], [(0, 7)], slots(b=7)), (0, 1, ("done",), [(0, 7)], [(0, 7)], slots(b=7)),
            (0, 2, ("fell", "n", 7), [], [], slots(b=7))])
        self.assertEqual([told[2][:1], told[2][:2]], told[:2])
        for entry in told[2]:
            for part in entry[3:]:
                part.clear()
        told[2].clear()
        self.assertEqual(hall.journal()[:2], told[1])


if __name__ == "__main__":
    unittest.main()
