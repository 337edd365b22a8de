"""The desk: points 2, 5 and 23."""

import random
import unittest

from retryhall.calm import calmed
from retryhall.desk import Desk
from retryhall.errors import HallError, NoDeed, NoRow
from retryhall.hall import Hall

GREATEST = "18446744073709551615"
TOO_GREAT = "18446744073709551616"
SEVEN = "let b 7 ; put a b"
# What is none of the rows, or has another thing where a number is wanted, wherever it comes.
NO_ROWS = (
    "", " ", "wat", "wat 0", "0", "Calm", "CALM", "calm 0", "calm ", " calm", "calm\n", "\tcalm", "journal 0",
    "journal ", " journal", "boxes", "boxes ", " boxes 1", "boxes  1", "boxes 1 ", "boxes 1  2", "boxes x", "boxes 01",
    "boxes 00", "boxes -1", "boxes +1", "boxes 1 2 x", "boxes x 1 2", "boxes 1.0", "boxes 1\t2", "boxes 1,2",
    "boxes " + TOO_GREAT, "boxes 1 " + TOO_GREAT, "boxes" + " 0" * 17, "box", "box ", "box x", "box 00", "box 0 0",
    "box  0", "box 0 ", " box 0", "box " + TOO_GREAT, "box -1", "stamp", "stamp ", "stamp x", "stamp 00", "stamp 0 0",
    "stamp  0", "stamp 0 ", "stamp " + TOO_GREAT, "turn", "turn ", "turn x", "turn 00", "turn 0 0", "turn  0",
    "turn 0 ", " turn 0", "turn " + TOO_GREAT, "turn -1", "turn True", "state", "state ", "state x", "state 00",
    "state 0 0", "state  0", "state 0 ", "state " + TOO_GREAT, "slots", "slots ", "slots x", "slots 00", "slots 0 0",
    "slots  0", "slots 0 ", "slots " + TOO_GREAT, "entry", "entry ", "entry x", "entry 00", "entry 0 0", "entry  0",
    "entry 0 ", "entry " + TOO_GREAT, "hands", "hands 0", "hand\n", "hand\twait", " hand", " hand wait", "handwait",
    "which 0", "saw 0", "ok", "turns 0", "boxs 1", "hand/wait", "entry 0 done",
)


class DeskCase(unittest.TestCase):
    def says(self, desk, *rows):
        # Rows and their answers by turns.
        for row, answer in zip(rows[::2], rows[1::2]):
            told = desk.say(row)
            self.assertIs(type(told), str)
            self.assertEqual(told, answer, row)

    def refused(self, desk, error, *rows):
        for row in rows:
            with self.assertRaises(HallError) as caught:
                desk.say(row)
            self.assertIs(type(caught.exception), error, row)

    def desk_with(self, *rows):
        desk = Desk()
        for row in rows:
            desk.say(row)
        return desk


class BoxesTest(DeskCase):
    def test_ordinary(self):
        self.says(Desk(), "boxes 5 0 17", "ok", "box 0", "5", "box 1", "0", "box 2", "17", "stamp 0", "0",
                  "stamp 2", "0")
        self.says(Desk(), "boxes " + GREATEST, "ok", "box 0", GREATEST)

    def test_one_to_sixteen(self):
        for many in range(1, 17):
            desk = Desk()
            self.says(desk, "boxes" + " 3" * many, "ok", "box %d" % (many - 1), "3", "stamp %d" % (many - 1), "0")
            self.refused(desk, NoRow, "box %d" % many, "stamp %d" % many)
        self.refused(Desk(), NoRow, "boxes", "boxes" + " 3" * 17, "boxes" + " 3" * 100)

    def test_only_while_there_are_none(self):
        desk = self.desk_with("boxes 5 6")
        self.refused(desk, NoRow, "boxes 1", "boxes 5 6", "boxes 1 2 3")
        self.says(desk, "box 0", "5", "box 1", "6", "hand", "0")
        self.refused(desk, NoRow, "boxes 1", "box 2")
        self.says(desk, "turn 0", "idle")
        self.refused(desk, NoRow, "boxes 1")

    def test_refused_ones_are_no_boxes(self):
        desk = Desk()
        self.refused(desk, NoRow, "boxes", "boxes 1 x", "boxes" + " 1" * 17, "boxes 01", "boxes 1 " + TOO_GREAT)
        self.refused(desk, NoRow, "box 0", "stamp 0", "hand")
        self.says(desk, "boxes 0", "ok", "box 0", "0")

    def test_a_box_of_nought_is_one(self):
        desk = self.desk_with("boxes 0")
        self.refused(desk, NoRow, "boxes 1")
        self.says(desk, "hand wait", "0")


class HandTest(DeskCase):
    def test_alone_it_has_no_deeds(self):
        self.says(self.desk_with("boxes 5"), "hand", "0", "state 0", "ended", "slots 0", "0 0 0 0 0 0 0 0",
                  "calm", "0", "journal", "0")

    def test_with_one_empty_deed(self):
        self.says(self.desk_with("boxes 5"), "hand ", "0", "state 0", "awake", "turn 0", "done 0", "state 0", "ended",
                  "journal", "1", "entry 0", "0 0 done")

    def test_a_blank_too_many(self):
        desk = self.desk_with("boxes 5")
        self.refused(desk, NoDeed, "hand  wait", "hand wait ", "hand  ", "hand let  a 1", "hand wait  / wait",
                     "hand wait /  wait", "hand   / wait", "hand wait /  ")
        self.says(desk, "hand wait", "0")

    def test_several_deeds(self):
        desk = self.desk_with("boxes 5")
        self.says(desk, "hand let a 1 / let b 2 / throw n b", "0", "calm", "5", "journal", "3", "entry 0", "0 0 done",
                  "entry 1", "0 1 done", "entry 2", "0 2 fell n 2", "slots 0", "1 2 0 0 0 0 0 0")

    def test_some_of_them_empty(self):
        for row, deeds in (("hand ", 1), ("hand  / ", 2), ("hand  / wait", 1), ("hand wait / ", 0),
                           ("hand  /  / ", 3), ("hand let a 1 /  / let b 1", 3), ("hand  /  /  /  /  / ", 6)):
            desk = self.desk_with("boxes 5")
            self.says(desk, row, "0")
            desk.say("calm")
            self.says(desk, "journal", str(deeds))

    def test_six_and_seven_deeds(self):
        desk = self.desk_with("boxes 5")
        self.says(desk, "hand " + " / ".join(["let a 1"] * 6), "0")
        self.refused(desk, NoRow, "hand " + " / ".join(["let a 1"] * 7), "hand " + " / ".join([""] * 7))
        self.says(desk, "hand " + " / ".join([""] * 6), "1", "calm", "18", "journal", "12")

    def test_eight_and_nine_hands(self):
        desk = self.desk_with("boxes 5")
        for hand in range(8):
            self.says(desk, "hand wait", str(hand))
        self.refused(desk, NoRow, "hand wait", "hand", "hand ")
        self.says(desk, "state 7", "awake", "calm", "8")
        self.refused(desk, NoRow, "state 8")

    def test_what_writes_no_deed(self):
        desk = self.desk_with("boxes 5", "hand let a 3")
        self.refused(desk, NoDeed, "hand wat", "hand wait ;", "hand wait / wat", "hand wat / wait", "hand /",
                     "hand wait /", "hand / wait", "hand wait/wait", "hand wait / / wait", "hand let a 01",
                     "hand let a " + TOO_GREAT, "hand let i 1", "hand hand", "hand " + " ; ".join(["wait"] * 80),
                     "hand  / / ", "hand wait\n")
        self.refused(desk, NoRow, "state 1")
        self.says(desk, "hand wait", "1", "slots 0", "0 0 0 0 0 0 0 0", "turn 0", "gone 0", "turn 1", "asleep 0")

    def test_no_row_goes_ahead_of_no_deed(self):
        self.refused(Desk(), NoRow, "hand wat", "hand  wait", "hand " + " / ".join(["wat"] * 7))
        desk = self.desk_with("boxes 5")
        self.refused(desk, NoRow, "hand " + " / ".join(["wat"] * 7), "hand " + " / ".join(["wait"] * 6 + ["wat"]))
        for hand in range(8):
            desk.say("hand")
        self.refused(desk, NoRow, "hand wat", "hand  wait")
        desk = self.desk_with("boxes 5", "hand wait", "turn 0")
        self.refused(desk, NoRow, "hand wat", "hand  wait")

    def test_only_where_there_are_boxes(self):
        desk = Desk()
        self.refused(desk, NoRow, "hand", "hand ", "hand wait")
        self.says(desk, "boxes 5", "ok", "hand wait", "0")

    def test_only_ahead_of_all_turns(self):
        desk = self.desk_with("boxes 5", "hand wait", "hand let a 1", "turn 0")
        self.refused(desk, NoRow, "hand", "hand ", "hand wait")
        self.says(desk, "turn 1", "gone 0", "state 0", "asleep")

    def test_idle_turns_count(self):
        desk = self.desk_with("boxes 5", "hand")
        self.says(desk, "turn 0", "idle")
        self.refused(desk, NoRow, "hand", "hand wait")

    def test_turns_by_calm_count(self):
        desk = self.desk_with("boxes 5", "hand ")
        self.says(desk, "calm", "1")
        self.refused(desk, NoRow, "hand", "hand wait")

    def test_a_calm_that_gives_no_turn_does_not_count(self):
        desk = Desk()
        self.says(desk, "calm", "0", "boxes 5", "ok", "calm", "0", "hand", "0", "calm", "0", "hand wait", "1",
                  "calm", "1")
        self.refused(desk, NoRow, "hand")

    def test_a_turn_that_is_refused_does_not_count(self):
        desk = self.desk_with("boxes 5")
        self.refused(desk, NoRow, "turn 0", "turn x")
        self.says(desk, "hand wait", "0")
        self.refused(desk, NoRow, "turn 1", "turn 00", "turn 0 ", "turn 0 0", "turn")
        self.says(desk, "hand wait", "1", "state 0", "awake", "state 1", "awake")

    def test_what_is_asked_does_not_count(self):
        desk = self.desk_with("boxes 5", "hand wait")
        self.says(desk, "box 0", "5", "stamp 0", "0", "state 0", "awake", "slots 0", "0 0 0 0 0 0 0 0", "journal", "0",
                  "hand", "1")


class TurnTest(DeskCase):
    def test_each_thing_told(self):
        desk = self.desk_with("boxes 0 17", "hand let c 3 ; let a 1 ; put d d ; take b a ; put a c ; put d d",
                              "hand take b a ; if b ( throw n b ) else ( wait )", "hand let b 4 ; put a b")
        self.says(desk, "turn 0", "gone 0", "turn 0", "gone 1", "turn 0", "gone 2", "turn 0", "seen 3 1 17",
                  "turn 1", "seen 0 0 0", "turn 0", "gone 4", "turn 0", "gone 5", "turn 0", "done 6", "turn 0", "idle")
        self.says(desk, "turn 1", "gone 1", "turn 1", "anew 4", "turn 1", "seen 0 0 0", "turn 1", "gone 1",
                  "turn 1", "asleep 4", "turn 1", "idle", "state 1", "asleep")
        self.says(desk, "turn 2", "gone 0", "turn 2", "gone 1", "turn 2", "done 2", "state 1", "awake",
                  "turn 1", "seen 0 0 4", "turn 1", "gone 1", "turn 1", "fell 2", "turn 1", "idle")
        self.says(desk, "journal", "3", "entry 0", "0 0 done", "entry 1", "2 0 done", "entry 2", "1 0 fell n 4",
                  "box 0", "4", "box 1", "3", "stamp 0", "2", "stamp 1", "1")

    def test_the_greatest_numbers(self):
        desk = self.desk_with("boxes " + GREATEST, "hand take b a ; throw eightlet b")
        self.says(desk, "turn 0", "seen 0 0 " + GREATEST, "slots 0", "0 " + GREATEST + " 0 0 0 0 0 0", "turn 0",
                  "fell 1", "entry 0", "0 0 fell eightlet " + GREATEST)

    def test_no_such_hand(self):
        desk = self.desk_with("boxes 5", "hand wait", "hand wait")
        self.refused(desk, NoRow, "turn 2", "turn 8", "turn " + GREATEST, "state 2", "slots 2")
        self.says(desk, "turn 1", "asleep 0", "turn 0", "asleep 0")

    def test_what_is_written_like_a_number_of_another_kind(self):
        desk = self.desk_with("boxes 5", "hand wait")
        self.refused(desk, NoRow, "turn 0x0", "turn 0_0", "turn -0", "turn +0", "turn 0.0", "turn \u0660", "turn a",
                     "turn None", "turn False", "turn 0000", "turn " + "0" * 5000, "turn " + "1" * 5000)


class CalmTest(DeskCase):
    def test_how_many_turns(self):
        desk = self.desk_with("boxes 0", "hand take b a ; if b ( ) else ( wait )", "hand let c 1 ; let c 2 ; " + SEVEN)
        self.says(desk, "calm", "12", "calm", "0", "box 0", "7", "state 0", "ended", "journal", "2")

    def test_behind_turns(self):
        desk = self.desk_with("boxes 0", "hand let a 1 ; let b 1")
        self.says(desk, "turn 0", "gone 0", "calm", "2", "calm", "0", "turn 0", "idle")

    def test_without_hands_or_boxes(self):
        desk = Desk()
        self.says(desk, "calm", "0", "journal", "0", "boxes 5", "ok", "calm", "0", "journal", "0", "hand", "0",
                  "calm", "0", "journal", "0")


class AskedTest(DeskCase):
    def test_box_and_stamp(self):
        desk = self.desk_with("boxes 5 6", "hand let a 1 ; let b 9 ; put a b / put a b")
        self.says(desk, "box 0", "5", "box 1", "6", "stamp 0", "0", "stamp 1", "0", "calm", "6", "box 0", "5",
                  "box 1", "9", "stamp 0", "0", "stamp 1", "2")
        self.refused(desk, NoRow, "box 2", "stamp 2", "box 16", "stamp " + GREATEST)

    def test_state(self):
        desk = self.desk_with("boxes 5", "hand wait", "hand", "hand let a 1")
        self.says(desk, "state 0", "awake", "state 1", "ended", "turn 0", "asleep 0", "state 0", "asleep",
                  "state 2", "awake", "calm", "2", "state 2", "ended")

    def test_slots(self):
        desk = self.desk_with("boxes 5", "hand let a 1 ; let h 8 ; let d 40 ; throw n a")
        self.says(desk, "turn 0", "gone 0", "slots 0", "1 0 0 0 0 0 0 0", "turn 0", "gone 1", "turn 0", "gone 2",
                  "slots 0", "1 0 0 40 0 0 0 8", "turn 0", "fell 3", "slots 0", "0 0 0 0 0 0 0 0")

    def test_journal_and_entry(self):
        desk = self.desk_with("boxes 5", "hand let b 1 / throw on b", "hand  / ")
        self.says(desk, "journal", "0")
        self.refused(desk, NoRow, "entry 0")
        self.says(desk, "turn 1", "done 0", "journal", "1", "entry 0", "1 0 done")
        self.refused(desk, NoRow, "entry 1")
        self.says(desk, "calm", "4", "journal", "4", "entry 0", "1 0 done", "entry 1", "1 1 done",
                  "entry 2", "0 0 done", "entry 3", "0 1 fell on 1")
        self.refused(desk, NoRow, "entry 4", "entry " + GREATEST)

    def test_without_hands_or_boxes(self):
        desk = Desk()
        asked = ("turn 0", "state 0", "slots 0", "entry 0")
        self.refused(desk, NoRow, "box 0", "stamp 0", *asked)
        desk.say("boxes 5")
        self.says(desk, "box 0", "5", "stamp 0", "0")
        self.refused(desk, NoRow, "box 1", "stamp 1", *asked)
        desk.say("hand")
        self.says(desk, "turn 0", "idle", "state 0", "ended", "slots 0", "0 0 0 0 0 0 0 0")


class RefusedTest(DeskCase):
    def told(self, desk):
        told = []
        for row in ["journal"] + ["%s %d" % (word, number) for word in ("box", "stamp", "state", "slots", "entry")
                                  for number in range(3)]:
            try:
                told.append(desk.say(row))
            except NoRow:
                told.append(None)
        return told

    def desks(self):
        rows = ["boxes 5 6", "hand let a 1 ; take b a ; put a a / wait", "hand ", "turn 0", "turn 0", "turn 1", "calm"]
        for many in range(len(rows) + 1):
            yield self.desk_with(*rows[:many])

    def test_refused_wherever_they_come_and_nothing_is_changed(self):
        for desk in self.desks():
            before = self.told(desk)
            self.refused(desk, NoRow, *NO_ROWS)
            self.assertEqual(self.told(desk), before)

    def test_a_hand_may_come_behind_what_was_refused(self):
        desk = self.desk_with("boxes 5")
        self.refused(desk, NoRow, *NO_ROWS)
        self.says(desk, "hand wait", "0")
        self.refused(desk, NoRow, *NO_ROWS)
        self.refused(desk, NoDeed, "hand wat", "hand wait / wat")
        self.says(desk, "hand wait", "1")

    def test_boxes_may_come_behind_what_was_refused(self):
        desk = Desk()
        self.refused(desk, NoRow, *NO_ROWS)
        self.says(desk, "boxes 1 2", "ok", "box 1", "2")
        self.refused(desk, NoRow, "box 2")

    def test_desks_have_halls_of_their_own(self):
        one, other = self.desk_with("boxes 5", "hand " + SEVEN), self.desk_with("boxes 5", "hand " + SEVEN)
        self.says(one, "calm", "3", "box 0", "7")
        self.says(other, "box 0", "5", "state 0", "awake", "journal", "0", "hand", "1")
        self.refused(Desk(), NoRow, "box 0", "state 0")


class AgainstTheHallTest(DeskCase):
    """Desks and halls of the same boxes and hands, given the same turns."""

    TEXTS = ("", SEVEN, "take b a ; if b ( ) else ( wait )", "wait", "take b a ; throw none b", "put a c",
             "let b 1 ; take c a ; plus c c b ; put a c", "let a 2 ; take b a ; put a c")

    def check_same(self, desk, hall):
        for box, number in enumerate(hall.boxes()):
            self.says(desk, "box %d" % box, str(number), "stamp %d" % box, str(hall.stamps()[box]))
        for hand in range(hall.hands()):
            self.says(desk, "state %d" % hand, hall.state(hand))
            self.says(desk, "slots %d" % hand, " ".join(str(number) for number in hall.slots(hand)))
        self.says(desk, "journal", str(len(hall.journal())))
        for place, entry in enumerate(hall.journal()):
            end = " ".join(str(part) for part in entry[2])
            self.says(desk, "entry %d" % place, "%d %d %s" % (entry[0], entry[1], end))

    def test_turns_made_at_will(self):
        chance = random.Random(37)
        for again in range(60):
            boxes = [chance.randrange(3) for box in range(chance.randrange(1, 4))]
            hands = [[chance.choice(self.TEXTS) for deed in range(chance.randrange(4))]
                     for hand in range(chance.randrange(1, 5))]
            hall, desk = Hall(boxes, hands), Desk()
            self.says(desk, "boxes " + " ".join(str(number) for number in boxes), "ok")
            for hand, texts in enumerate(hands):
                self.says(desk, "hand " + " / ".join(texts) if texts else "hand", str(hand))
            for turn in range(chance.randrange(40)):
                hand = chance.randrange(len(hands))
                self.says(desk, "turn %d" % hand, " ".join(str(part) for part in hall.turn(hand)))
                self.check_same(desk, hall)
            self.says(desk, "calm", str(len(calmed(hall))))
            self.check_same(desk, hall)


if __name__ == "__main__":
    unittest.main()
