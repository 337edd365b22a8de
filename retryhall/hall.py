"""The hall: boxes of numbers, and hands whose deeds are woven row by row, yet each done as a whole or not at all."""

from retryhall.errors import NoBoxes, NoHand, NoHands
from retryhall.hand import Hand
from retryhall.rows import rows_of
from retryhall.texts import read
from retryhall.words import is_number, is_whole

MOST_BOXES = 16
MOST_HANDS = 8
MOST_DEEDS = 6


def check_boxes(boxes):
    if not 1 <= len(boxes) <= MOST_BOXES:
        raise NoBoxes("a hall has one to sixteen boxes")
    if not all([is_number(box) for box in boxes]):
        raise NoBoxes("a box has a number from 0 to below WIDE")


# The rows of each deed of each hand. All are counted ahead of the first one's reading: NoHands goes before NoDeed.
def rows_of_hands(hands):
    if not 1 <= len(hands) <= MOST_HANDS:
        raise NoHands("a hall has one to eight hands")
    if any([len(texts) > MOST_DEEDS for texts in hands]):
        raise NoHands("a hand has at most six deeds")
    return [rows_of_deeds(texts) for texts in hands]


def rows_of_deeds(texts):
    return [rows_of(read(text)) for text in texts]


class Hall:
    def __init__(self, boxes, hands):
        check_boxes(boxes)
        self.numbers = list(boxes)
        self.marks = [0] * len(boxes)
        self.crew = [Hand(deeds, len(boxes)) for deeds in rows_of_hands(hands)]
        self.entries = []

    def boxes(self):
        return list(self.numbers)

    def stamps(self):
        return list(self.marks)

    def hands(self):
        return len(self.crew)

    def hand_at(self, hand):
        if not is_whole(hand) or not 0 <= hand < len(self.crew):
            raise NoHand("there is no such hand")
        return self.crew[hand]

    def state(self, hand):
        return self.hand_at(hand).state()

    def which(self, hand):
        return self.hand_at(hand).nth

    def slots(self, hand):
        return list(self.hand_at(hand).run.held)

    def saw(self, hand):
        return self.hand_at(hand).run.log.saw()

    def journal(self):
        return [(entry[0], entry[1], entry[2], list(entry[3]), list(entry[4]), list(entry[5]))
                for entry in self.entries]

    def turn(self, hand):
        member = self.hand_at(hand)
        if member.state() != "awake":
            return ("idle",)
        row_number = member.run.at
        if not member.run.is_looked_over():
            member.run.go()
            return ("gone", row_number)
        if member.run.is_stale(self.marks):
            member.begin_anew()
            return ("anew", row_number)
        return self.looked_over_told(hand, row_number)

    def looked_over_told(self, hand, row_number):
        member = self.crew[hand]
        row = member.run.row()
        if row[0] == "take":
            box = member.run.see_next(self.numbers, self.marks)
            return ("seen", row_number, box, self.numbers[box])
        if row[0] == "wait":
            member.fall_asleep()
            return ("asleep", row_number)
        if row[0] == "throw":
            self.end_deed(hand, ("fell", row[1], member.run.held_in(row[2])), [], member.before)
            return ("fell", row_number)
        self.lay_down(hand)
        return ("done", row_number)

    def lay_down(self, hand):
        run = self.crew[hand].run
        laid = run.log.wrote()
        for pair in laid:
            box = pair[0]
            self.numbers[box] = pair[1]
            self.marks[box] = self.marks[box] + 1
        self.end_deed(hand, ("done",), laid, run.held)
        self.wake_stale()

    # A sleeping deed was well until now, so it is stale just where it saw one of the boxes laid down.
    def wake_stale(self):
        for member in self.crew:
            if member.state() == "asleep" and member.run.is_stale(self.marks):
                member.begin_anew()

    def end_deed(self, hand, end, laid, slots):
        member = self.crew[hand]
        self.entries.append((hand, member.nth, end, member.run.log.saw(), laid, list(slots)))
        member.go_on(slots)
