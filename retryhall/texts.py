"""Deeds and their texts: the text of a deed, and the deed that a text writes."""

from retryhall.errors import NoDeed
from retryhall.parts import Either, If, Let, Put, Reckon, Take, Throw, Try, Wait, list_long, list_shown
from retryhall.words import is_name, is_slot, is_word, number_of

MOST_AROUND = 8
MOST_ROWS = 80


def shown(deed):
    return list_shown(deed)


def read(text):
    reader = Reader(words_of(text))
    deed = reader.list_taken(0)
    if reader.ahead() is not None:
        raise NoDeed("words stand behind the deed's end")
    # The row that lays the deed down belongs to no part.
    if list_long(deed) + 1 > MOST_ROWS:
        raise NoDeed("the deed has too many rows")
    return deed


def words_of(text):
    # Python splits the text without signs into one word without signs.
    if text == "":
        return []
    return text.split(" ")


class Reader:
    def __init__(self, words):
        self.words = list(words)
        self.at = 0

    def ahead(self):
        # None tells the end: a word without signs stands wherever two blanks are neighbours.
        if self.at < len(self.words):
            return self.words[self.at]
        return None

    def taken(self):
        word = self.ahead()
        if word is None:
            raise NoDeed("the text ends too soon")
        self.at = self.at + 1
        return word

    def pass_over(self, wanted):
        word = self.taken()
        if word != wanted:
            raise NoDeed("wanted is " + wanted + ", not " + word)

    def slot_taken(self):
        word = self.taken()
        if not is_slot(word):
            raise NoDeed("no slot: " + word)
        return word

    def name_taken(self):
        word = self.taken()
        if not is_name(word):
            raise NoDeed("no fault's name: " + word)
        return word

    def number_taken(self):
        word = self.taken()
        number = number_of(word)
        if number is None:
            raise NoDeed("no number: " + word)
        return number

    # How many parts lie around those of a list is told on the way down, so that a text of endless brackets is
    # refused before its reading gets deep.
    def list_taken(self, around):
        if self.ahead() is None or self.ahead() == ")":
            return []
        parts = [self.part_taken(around)]
        while self.ahead() == ";":
            self.pass_over(";")
            parts.append(self.part_taken(around))
        return parts

    def side_taken(self, around):
        self.pass_over("(")
        parts = self.list_taken(around)
        self.pass_over(")")
        return parts

    def part_taken(self, around):
        if around > MOST_AROUND:
            raise NoDeed("a part lies too deep")
        word = self.taken()
        if word == "if":
            return self.if_taken(around + 1)
        if word == "either":
            return self.either_taken(around + 1)
        if word == "try":
            return self.try_taken(around + 1)
        return self.plain_taken(word)

    def if_taken(self, around):
        slot = self.slot_taken()
        parts = self.side_taken(around)
        self.pass_over("else")
        others = self.side_taken(around)
        return If(slot, parts, others)

    def either_taken(self, around):
        parts = self.side_taken(around)
        self.pass_over("or")
        others = self.side_taken(around)
        return Either(parts, others)

    def try_taken(self, around):
        parts = self.side_taken(around)
        self.pass_over("on")
        name = self.name_taken()
        slot = self.slot_taken()
        others = self.side_taken(around)
        return Try(parts, name, slot, others)

    def plain_taken(self, word):
        if word == "let":
            slot = self.slot_taken()
            return Let(slot, self.number_taken())
        if word == "take":
            slot = self.slot_taken()
            return Take(slot, self.slot_taken())
        if word == "put":
            place = self.slot_taken()
            return Put(place, self.slot_taken())
        if word == "throw":
            name = self.name_taken()
            return Throw(name, self.slot_taken())
        if word == "wait":
            return Wait()
        if is_word(word):
            return self.reckon_taken(word)
        raise NoDeed("no part begins so: " + word)

    def reckon_taken(self, word):
        slot = self.slot_taken()
        one = self.slot_taken()
        other = self.slot_taken()
        return Reckon(word, slot, one, other)
