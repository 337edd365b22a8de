"""The desk: a hall made, turned and asked by rows of words."""

from retryhall.calm import calmed
from retryhall.errors import NoRow
from retryhall.hall import MOST_BOXES, MOST_DEEDS, MOST_HANDS, Hall
from retryhall.words import number_of


def blanks_between(values):
    return " ".join([str(value) for value in values])


def one_of(told, number):
    if number >= len(told):
        raise NoRow("there is no such box or entry")
    return told[number]


class Desk:
    def __init__(self):
        # The hall is made when the first hand comes, since none is let without hands, and made again with each hand
        # more: no turn was given yet.
        self.hall = None
        self.first_numbers = []
        self.crew_texts = []
        self.turned = False

    def say(self, row):
        if row == "hand":
            return self.say_hand([])
        if row.startswith("hand "):
            return self.say_hand(row[len("hand "):].split(" / "))
        words = row.split(" ")
        if words[0] == "boxes":
            return self.say_boxes(words[1:])
        if row == "calm":
            return self.say_calm()
        if row == "journal":
            return str(len(self.entries_told()))
        if len(words) == 2:
            return self.say_asked(words[0], number_of(words[1]))
        raise NoRow("there is no such row")

    def say_boxes(self, words):
        if self.first_numbers != []:
            raise NoRow("there are boxes already")
        numbers = [number_of(word) for word in words]
        if not 1 <= len(numbers) <= MOST_BOXES or None in numbers:
            raise NoRow("wanted are one to sixteen numbers")
        self.first_numbers = numbers
        return "ok"

    def say_hand(self, texts):
        if self.first_numbers == [] or self.turned:
            raise NoRow("a hand comes behind the boxes and ahead of all turns")
        if len(self.crew_texts) == MOST_HANDS or len(texts) > MOST_DEEDS:
            raise NoRow("there are too many hands or deeds")
        crew_texts = self.crew_texts + [texts]
        # A deed that is refused is refused here, before anything is kept.
        self.hall = Hall(self.first_numbers, crew_texts)
        self.crew_texts = crew_texts
        return str(len(crew_texts) - 1)

    def say_calm(self):
        if self.hall is None:
            return "0"
        turns = len(calmed(self.hall))
        if turns > 0:
            self.turned = True
        return str(turns)

    def say_asked(self, word, number):
        if number is None:
            raise NoRow("a number is wanted")
        if word == "box":
            return str(one_of(self.boxes_told(), number))
        if word == "stamp":
            return str(one_of(self.stamps_told(), number))
        if word == "entry":
            entry = one_of(self.entries_told(), number)
            return blanks_between([entry[0], entry[1]] + list(entry[2]))
        return self.say_of_hand(word, number)

    def say_of_hand(self, word, hand):
        if hand >= len(self.crew_texts):
            raise NoRow("there is no such hand")
        if word == "turn":
            self.turned = True
            return blanks_between(self.hall.turn(hand))
        if word == "state":
            return self.hall.state(hand)
        if word == "slots":
            return blanks_between(self.hall.slots(hand))
        raise NoRow("there is no such row")

    def boxes_told(self):
        return list(self.first_numbers) if self.hall is None else self.hall.boxes()

    def stamps_told(self):
        return [0] * len(self.first_numbers) if self.hall is None else self.hall.stamps()

    def entries_told(self):
        return [] if self.hall is None else self.hall.journal()
