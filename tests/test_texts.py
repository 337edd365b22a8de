"""Deeds and their texts: points 2, 5, 6, 7 and 8."""

import itertools
import random
import unittest

from retryhall.errors import HallError, NoDeed
from retryhall.parts import Either, If, Let, Put, Reckon, Take, Throw, Try, Wait
from retryhall.texts import read, shown
from retryhall.words import WIDE

WORDS = ("plus", "minus", "times", "less", "same")
WORDS_OF_DEEDS = WORDS + ("let", "take", "put", "if", "else", "either", "or", "try", "on", "throw", "wait")
ALIKE = (WORDS, ("take", "put", "throw"))
VALUES = ("word", "number", "slot", "one", "other", "place", "name")


def plain(deed):
    # Parts are not compared by their values, so a deed is laid out as tuples of classes and values.
    told = []
    for part in deed:
        values = [(name, getattr(part, name)) for name in VALUES if hasattr(part, name)]
        sides = [(name, plain(getattr(part, name))) for name in ("parts", "others") if hasattr(part, name)]
        told.append((type(part), values, sides))
    return told


def lists_of(deed):
    found = [deed]
    for part in deed:
        for name in ("parts", "others"):
            if hasattr(part, name):
                found.extend(lists_of(getattr(part, name)))
    return found


def nested(times, innermost):
    # The innermost text within so many parts.
    text = innermost
    for depth in range(times):
        text = ("if a ( X ) else ( )", "either ( ) or ( X )", "try ( X ) on n a ( )")[depth % 3].replace("X", text)
    return text


GOOD = (
    ("let a 0", [Let("a", 0)]),
    ("let h 17", [Let("h", 17)]),
    ("let c 18446744073709551615", [Let("c", WIDE - 1)]),
    ("plus c a b", [Reckon("plus", "c", "a", "b")]),
    ("minus a b c", [Reckon("minus", "a", "b", "c")]),
    ("times d d d", [Reckon("times", "d", "d", "d")]),
    ("less h g f", [Reckon("less", "h", "g", "f")]),
    ("same e e a", [Reckon("same", "e", "e", "a")]),
    ("take a b", [Take("a", "b")]),
    ("put a b", [Put("a", "b")]),
    ("throw full d", [Throw("full", "d")]),
    ("throw a b", [Throw("a", "b")]),
    ("throw abcdefgh b", [Throw("abcdefgh", "b")]),
    ("wait", [Wait()]),
    ("wait ; wait", [Wait(), Wait()]),
    ("let a 1 ; take b a ; put a b", [Let("a", 1), Take("b", "a"), Put("a", "b")]),
    ("if a ( ) else ( )", [If("a", [], [])]),
    ("if a ( ) else ( wait )", [If("a", [], [Wait()])]),
    ("if b ( wait ) else ( )", [If("b", [Wait()], [])]),
    ("either ( ) or ( )", [Either([], [])]),
    ("either ( ) or ( wait )", [Either([], [Wait()])]),
    ("either ( wait ) or ( )", [Either([Wait()], [])]),
    ("try ( ) on full b ( )", [Try([], "full", "b", [])]),
    ("try ( wait ) on full b ( )", [Try([Wait()], "full", "b", [])]),
    ("try ( ) on full b ( wait )", [Try([], "full", "b", [Wait()])]),
    (
        "if d ( let a 1 ; take b a ) else ( throw full c ; wait ; put a b )",
        [If("d", [Let("a", 1), Take("b", "a")], [Throw("full", "c"), Wait(), Put("a", "b")])],
    ),
    (
        "either ( let a 1 ; take b a ) or ( throw full c ; wait ; put a b )",
        [Either([Let("a", 1), Take("b", "a")], [Throw("full", "c"), Wait(), Put("a", "b")])],
    ),
    (
        "try ( let a 1 ; take b a ) on full e ( throw full c ; wait ; put a b )",
        [Try([Let("a", 1), Take("b", "a")], "full", "e", [Throw("full", "c"), Wait(), Put("a", "b")])],
    ),
    (
        "wait ; try ( either ( let b 2 ; if a ( wait ) else ( ) ) or ( throw x a ) ; put a b ) on x c "
        "( if a ( ) else ( wait ) ; either ( ) or ( ) ) ; less a b c",
        [
            Wait(),
            Try(
                [Either([Let("b", 2), If("a", [Wait()], [])], [Throw("x", "a")]), Put("a", "b")], "x", "c",
                [If("a", [], [Wait()]), Either([], [])],
            ),
            Reckon("less", "a", "b", "c"),
        ],
    ),
    (
        "if a ( if b ( if c ( ) else ( wait ) ) else ( ) ) else ( if d ( ) else ( if e ( wait ) else ( ) ) )",
        [If("a", [If("b", [If("c", [], [Wait()])], [])], [If("d", [], [If("e", [Wait()], [])])])],
    ),
)


class TextsCase(unittest.TestCase):
    def check_no_deed(self, text):
        for error in (NoDeed, HallError, ValueError):
            with self.assertRaises(error, msg=repr(text[:200])):
                read(text)


class GoodTextsTest(TextsCase):
    def test_deeds_are_shown(self):
        for text, deed in GOOD:
            self.assertEqual(shown(deed), text)

    def test_texts_are_read(self):
        for text, deed in GOOD:
            told = read(text)
            self.assertIs(type(told), list, text)
            self.assertEqual(plain(told), plain(deed), text)

    def test_what_is_read_is_shown_by_the_same_text(self):
        for text, deed in GOOD:
            self.assertEqual(shown(read(text)), text)

    def test_the_empty_deed(self):
        self.assertEqual(shown([]), "")
        self.assertEqual(read(""), [])
        self.assertIs(type(read("")), list)

    def test_a_number_read_is_a_whole_number(self):
        for number in (0, 1, 9, 10, 10 ** 19 - 1, 10 ** 19, WIDE - 1):
            part = read("let a " + str(number))[0]
            self.assertIs(type(part.number), int)
            self.assertEqual(part.number, number)

    def test_each_slot_at_each_place(self):
        for slot in "abcdefgh":
            for text in ("let X 1", "plus X a b", "plus a X b", "plus a b X", "take X a", "take a X", "put X a",
                         "put a X", "if X ( ) else ( )", "try ( ) on n X ( )", "throw n X"):
                text = text.replace("X", slot)
                self.assertEqual(shown(read(text)), text)

    def test_fault_names_that_are_words(self):
        for name in WORDS_OF_DEEDS:
            self.assertEqual(plain(read("throw " + name + " a")), plain([Throw(name, "a")]))
            text = "try ( throw " + name + " a ; wait ) on " + name + " b ( wait )"
            self.assertEqual(plain(read(text)), plain([Try([Throw(name, "a"), Wait()], name, "b", [Wait()])]))
            self.assertEqual(shown(read(text)), text)

    def test_fault_names_that_are_slots(self):
        self.assertEqual(plain(read("try ( throw a a ) on a a ( )")), plain([Try([Throw("a", "a")], "a", "a", [])]))

    def test_deeds_made_at_will(self):
        chance = random.Random(8)
        for again in range(300):
            deed = self.made(chance, 3)
            if sum(part.long() for part in deed) <= 79:
                self.assertEqual(plain(read(shown(deed))), plain(deed))
                self.assertEqual(shown(read(shown(deed))), shown(deed))

    def made(self, chance, depth):
        return [self.made_part(chance, depth) for again in range(chance.randrange(4))]

    def made_part(self, chance, depth):
        one, other, slot = (chance.choice("abcdefgh") for again in range(3))
        name = chance.choice(("n", "on", "full", "wait"))
        kind = chance.randrange(9 if depth > 0 else 6)
        if kind == 0:
            return Let(slot, chance.choice((0, 7, WIDE - 1)))
        if kind == 1:
            return Reckon(chance.choice(WORDS), slot, one, other)
        if kind == 2:
            return Take(slot, one)
        if kind == 3:
            return Put(one, slot)
        if kind == 4:
            return Throw(name, slot)
        if kind == 5:
            return Wait()
        parts, others = self.made(chance, depth - 1), self.made(chance, depth - 1)
        if kind == 6:
            return If(slot, parts, others)
        if kind == 7:
            return Either(parts, others)
        return Try(parts, name, slot, others)


class OwnListsTest(TextsCase):
    TEXT = "if a ( wait ; either ( wait ) or ( ) ) else ( try ( ) on n a ( wait ) )"

    def test_a_text_read_twice_gives_two_deeds(self):
        one, other = read(self.TEXT), read(self.TEXT)
        for deed in lists_of(one):
            deed.append(Let("a", 1))
        self.assertEqual(shown(other), self.TEXT)
        self.assertEqual(shown(read(self.TEXT)), self.TEXT)
        self.assertNotEqual(shown(one), self.TEXT)

    def test_the_empty_deed_read_twice(self):
        read("").append(Wait())
        self.assertEqual(read(""), [])
        read("either ( ) or ( )")[0].parts.append(Wait())
        self.assertEqual(read("either ( ) or ( )")[0].parts, [])

    def test_lists_of_a_deed_read_are_not_one_another(self):
        lists = lists_of(read(self.TEXT))
        self.assertEqual(len({id(deed) for deed in lists}), len(lists))

    def test_values_of_a_deed_read_changed(self):
        one, other = read("let a 1 ; wait"), read("let a 1 ; wait")
        one[0].number = 5
        one.clear()
        self.assertEqual(shown(other), "let a 1 ; wait")

    def test_showing_changes_nothing(self):
        wait, inner = Wait(), [Let("a", 1)]
        deed = [wait, Either(inner, [])]
        parts = list(deed)
        for again in range(3):
            self.assertEqual(shown(deed), "wait ; either ( let a 1 ) or ( )")
        self.assertEqual(deed, parts)
        self.assertEqual(len(inner), 1)


class BlanksTest(TextsCase):
    def test_blanks_alone(self):
        for text in (" ", "  ", "   "):
            self.check_no_deed(text)

    def test_a_blank_more_anywhere(self):
        for text, deed in GOOD:
            self.check_no_deed(" " + text)
            self.check_no_deed(text + " ")
            words = text.split(" ")
            for place in range(1, len(words)):
                self.check_no_deed(" ".join(words[:place]) + "  " + " ".join(words[place:]))

    def test_a_blank_left_out(self):
        for text, deed in GOOD:
            words = text.split(" ")
            for place in range(1, len(words)):
                self.check_no_deed(" ".join(words[:place]) + " ".join(words[place:]))

    def test_another_sign_in_a_blanks_place(self):
        for sign in "\t\n\r\x0b\xa0_,":
            self.check_no_deed("let" + sign + "a 1")
            self.check_no_deed("let a 1" + sign + "; wait")
            self.check_no_deed("either (" + sign + ") or ( )")
            self.check_no_deed("wait" + sign)
            self.check_no_deed(sign + "wait")
            self.check_no_deed(sign)

    def test_empty_brackets_without_a_blank(self):
        for text in ("if a () else ( )", "if a ( ) else ()", "either () or ( )", "try () on n a ( )",
                     "if a (  ) else ( )", "if a (wait) else ( )"):
            self.check_no_deed(text)


class WordsTest(TextsCase):
    def changed(self, text, word):
        words = text.split(" ")
        for place in range(len(words)):
            yield " ".join(words[:place] + words[place + 1:])
            yield " ".join(words[:place] + [words[place]] + words[place:])
            yield " ".join(words[:place] + [word] + words[place:])
            yield " ".join(words[:place] + [word] + words[place + 1:])

    def test_a_word_of_a_plain_part_left_out(self):
        for text in ("let a 5", "plus c a b", "minus c a b", "times c a b", "less c a b", "same c a b", "take a b",
                     "put a b", "throw n a"):
            words = text.split(" ")
            for place in range(len(words)):
                self.check_no_deed(" ".join(words[:place] + words[place + 1:]))
                self.check_no_deed("wait ; " + " ".join(words[:place] + words[place + 1:]))
                self.check_no_deed("either ( " + " ".join(words[:place] + words[place + 1:]) + " ) or ( )")

    def test_a_word_of_a_part_with_sides_left_out(self):
        for text in ("if a ( ) else ( )", "either ( ) or ( )", "try ( ) on n a ( )"):
            words = text.split(" ")
            for place in range(len(words)):
                self.check_no_deed(" ".join(words[:place] + words[place + 1:]))
                self.check_no_deed("wait ; " + " ".join(words[:place] + words[place + 1:]) + " ; wait")

    def test_a_word_twice(self):
        for text in ("let a 5", "plus c a b", "take a b", "put a b", "throw n a", "wait", "if a ( ) else ( )",
                     "either ( ) or ( )", "try ( ) on n a ( )", "wait ; wait", "if a ( wait ) else ( wait )"):
            words = text.split(" ")
            for place in range(len(words)):
                self.check_no_deed(" ".join(words[:place] + [words[place]] + words[place:]))

    def test_another_word_in_its_place(self):
        for text, places in (
            ("let a 5", (0, 1, 2)), ("plus c a b", (0, 1, 2, 3)), ("take a b", (0, 1, 2)), ("put a b", (0, 1, 2)),
            ("throw n a", (0, 2)), ("wait", (0,)), ("if a ( ) else ( )", range(7)), ("either ( ) or ( )", range(6)),
            ("try ( ) on n a ( )", (0, 1, 2, 3, 5, 6, 7)),
        ):
            for place in places:
                words = text.split(" ")
                for other in WORDS_OF_DEEDS + ("(", ")", ";", "/", "x", "Wait", "", "lay", "jump", "settle"):
                    # Some words may stand in one another's place, and the text without signs is a deed.
                    alike = any(other in words_alike and words[place] in words_alike for words_alike in ALIKE)
                    if other != words[place] and not alike and (text, other) != ("wait", ""):
                        self.check_no_deed(" ".join(words[:place] + [other] + words[place + 1:]))

    def test_whatever_is_changed_no_text_is_read_that_shows_otherwise(self):
        # What is taken for a deed must be written by that very text.
        for text, deed in GOOD:
            for word in WORDS_OF_DEEDS + ("(", ")", ";", "", "a", "7", "n", "x"):
                for other in self.changed(text, word):
                    try:
                        told = read(other)
                    except NoDeed:
                        continue
                    self.assertEqual(shown(told), other)

    def test_all_short_rows_of_words(self):
        good = {
            "wait", "wait ; wait", "wait ; wait ; wait", "wait ; wait ; wait ; wait", "either ( ) or ( )",
            "either ( wait ) or ( )", "either ( ) or ( wait )",
        }
        found = set()
        for length in range(1, 8):
            for words in itertools.product(("either", "(", ")", "or", "wait", ";"), repeat=length):
                try:
                    read(" ".join(words))
                except NoDeed:
                    continue
                found.add(" ".join(words))
        self.assertEqual(found, good)

    def test_capitals(self):
        for text, deed in GOOD:
            self.check_no_deed(text.upper())
            self.check_no_deed(text.capitalize())

    def test_rows_are_no_parts(self):
        for text in ("lay", "jump 1", "settle", "unless a 2", "guard n a 3", "either 3"):
            self.check_no_deed(text)

    def test_the_words_between_sides_are_not_one_anothers(self):
        for text in ("if a ( ) or ( )", "if a ( ) on ( )", "either ( ) else ( )", "either ( ) on ( )",
                     "try ( ) or n a ( )", "try ( ) else n a ( )", "try ( ) on n ( )", "try ( ) on a ( )",
                     "if a ( )", "either ( )", "try ( )", "try ( ) on n a", "if ( ) else ( )", "either a ( ) or ( )"):
            self.check_no_deed(text)


class SemicolonsTest(TextsCase):
    def test_ahead_behind_twice(self):
        for text, deed in GOOD:
            self.check_no_deed("; " + text)
            self.check_no_deed(text + " ;")
            self.check_no_deed(text + " ; ; " + text)
            self.check_no_deed(text + " ;; " + text)
            self.check_no_deed(text + " " + text)

    def test_alone(self):
        for text in (";", "; ;", " ;", "; "):
            self.check_no_deed(text)

    def test_within_sides(self):
        for side in ("( ; )", "( ; wait )", "( wait ; )", "( wait ; ; wait )", "( wait wait )", "( wait; wait )"):
            for text in ("if a X else ( )", "if a ( ) else X", "either X or ( )", "either ( ) or X",
                         "try X on n a ( )", "try ( ) on n a X"):
                self.check_no_deed(text.replace("X", side))

    def test_within_parts(self):
        for text in ("let ; a 1", "let a ; 1", "if a ; ( ) else ( )", "if a ( ) ; else ( )", "if a ( ) else ; ( )",
                     "either ( ) ; or ( )", "try ( ) on n ; a ( )"):
            self.check_no_deed(text)


class BracketsTest(TextsCase):
    def test_not_closed(self):
        for text in ("if a (", "if a ( )  else (", "if a ( wait", "if a ( wait ) else ( wait", "either (",
                     "either ( ) or (", "either ( wait ) or ( wait", "try (", "try ( ) on n a (",
                     "try ( ) on n a ( wait", "either ( either ( ) or ( ) or ( )", "("):
            self.check_no_deed(text)

    def test_never_opened(self):
        for text in (")", "wait )", ") wait", "if a ( ) else ( ) )", "either ( ) or ( ) )", "try ( ) on n a ( ) )",
                     "if a ) else ( )", "if a ( ) else )", "either ) or ( )", "let a 1 )", "wait ; )", ") ; wait",
                     "either ( ) ) or ( )"):
            self.check_no_deed(text)

    def test_round_no_side(self):
        for text in ("( )", "( wait )", "( wait ) ; wait", "if a ( ( wait ) ) else ( )", "either ( ( ) ) or ( )",
                     "either ( wait ) or ( ) ( )", "let ( a ) 1", "if ( a ) ( ) else ( )"):
            self.check_no_deed(text)

    def test_other_brackets(self):
        for pair in ("[]", "{}", "<>"):
            self.check_no_deed("if a ( ) else ( )".replace("(", pair[0]).replace(")", pair[1]))


class SlotsNumbersNamesTest(TextsCase):
    def test_no_slot_where_one_is_wanted(self):
        places = ("let X 1", "plus X a b", "plus a X b", "same a b X", "take X a", "take a X", "put X a", "put a X",
                  "if X ( ) else ( )", "try ( ) on n X ( )", "throw n X")
        for text in places:
            self.assertEqual(shown(read(text.replace("X", "h"))), text.replace("X", "h"))
            for word in ("i", "z", "A", "H", "ab", "aa", "abcdefgh", "0", "7", "(", ")", ";", "wait", "on", "`", "a;"):
                self.check_no_deed(text.replace("X", word))

    def test_no_number_where_one_is_wanted(self):
        for word in ("00", "01", "007", "0" * 20, "18446744073709551616", "18446744073709551617", "9" * 20,
                     "1" + "0" * 20, "1" * 5000, "-1", "+1", "-0", "1.0", "1e3", "0x1", "1_0", "a", "n", "one", "(",
                     ";", "\u0661", "\xb2", "1\n"):
            self.check_no_deed("let a " + word)
            self.check_no_deed("if a ( let a " + word + " ) else ( )")

    def test_no_name_where_one_is_wanted(self):
        for word in ("A", "Full", "full1", "1", "0", "f-l", "abcdefghi", "z" * 5000, "(", ")", ";", "n;", "f_l", "n\n",
                     "\xe9"):
            self.check_no_deed("throw " + word + " a")
            self.check_no_deed("try ( ) on " + word + " a ( )")

    def test_words_reckoning_that_there_are_not(self):
        for word in ("more", "divide", "add", "Plus", "pluss", "plu", "equal"):
            self.check_no_deed(word + " a b c")

    def test_too_many_words(self):
        for text in ("let a 1 2", "let a b 1", "plus a b", "plus a b c d", "take a", "take a b c", "put a b c",
                     "throw n a b", "throw n", "throw", "wait a", "wait 1", "if a b ( ) else ( )",
                     "try ( ) on n m a ( )", "try ( ) on n a b ( )"):
            self.check_no_deed(text)


class DepthTest(TextsCase):
    def test_up_to_eight_parts_round_another(self):
        for innermost in ("wait", "let a 1", "wait ; wait", "throw n a"):
            for times in range(9):
                text = nested(times, innermost)
                self.assertEqual(shown(read(text)), text)

    def test_nine_parts_round_another(self):
        for times in range(9, 14):
            self.check_no_deed(nested(times, "wait"))
            self.check_no_deed(nested(times, "put a b ; wait"))

    def test_brackets_nine_deep_with_nothing_in_the_innermost(self):
        for innermost in ("if a ( ) else ( )", "either ( ) or ( )", "try ( ) on n a ( )"):
            text = nested(8, innermost)
            self.assertEqual(shown(read(text)), text)
            self.check_no_deed(nested(9, innermost))
            self.check_no_deed(nested(10, innermost))

    def test_brackets_nine_deep_with_something_in_the_innermost(self):
        for innermost in ("if a ( wait ) else ( )", "if a ( ) else ( wait )", "either ( wait ) or ( )",
                          "either ( ) or ( wait )", "try ( wait ) on n a ( )", "try ( ) on n a ( wait )"):
            text = nested(7, innermost)
            self.assertEqual(shown(read(text)), text)
            self.check_no_deed(nested(8, innermost))

    def test_at_each_kind_and_side(self):
        for side in ("if a ( X ) else ( )", "if a ( ) else ( X )", "either ( X ) or ( )", "either ( ) or ( X )",
                     "try ( X ) on n a ( )", "try ( ) on n a ( X )"):
            text = "wait"
            for times in range(8):
                text = side.replace("X", text)
            self.assertEqual(shown(read(text)), text)
            self.check_no_deed(side.replace("X", text))

    def test_parts_behind_one_another_are_not_deeper(self):
        deep = nested(8, "wait")
        text = "wait ; " + deep + " ; wait ; " + deep
        self.assertEqual(shown(read(text)), text)
        self.check_no_deed(text + " ; " + nested(9, "wait"))

    def test_brackets_without_end(self):
        for times in (100, 600, 1400):
            self.check_no_deed("if a ( " * times)
            self.check_no_deed("either ( " * times + "wait")
            self.check_no_deed("( " * times)
            self.check_no_deed(" ".join(["if a ("] * times + [") else ( )"] * times)[:20000])

    def test_a_deed_deeper_than_let_is_shown(self):
        deed, text = [Wait()], "wait"
        for times in range(12):
            deed, text = [Either(deed, [])], "either ( " + text + " ) or ( )"
        self.assertEqual(shown(deed), text)


class RowsCountTest(TextsCase):
    def check_let(self, text):
        self.assertEqual(shown(read(text)), text)

    def waits(self, count):
        return " ; ".join(["wait"] * count)

    def test_plain_parts_at_the_top(self):
        self.check_let(self.waits(78))
        self.check_let(self.waits(79))
        self.assertEqual(len(read(self.waits(79))), 79)
        self.check_no_deed(self.waits(80))
        self.check_no_deed(self.waits(81))

    def test_each_plain_kind_is_one_row(self):
        for text in ("let a 1", "plus a b c", "take a b", "put a b", "throw n a", "wait"):
            self.check_let(" ; ".join([text] * 79))
            self.check_no_deed(" ; ".join([text] * 80))

    def test_in_a_side(self):
        for side, own in (
            ("if a ( X ) else ( )", 2), ("if a ( ) else ( X )", 2), ("either ( X ) or ( )", 3),
            ("either ( ) or ( X )", 3), ("try ( X ) on n a ( )", 3), ("try ( ) on n a ( X )", 3),
        ):
            self.check_let(side.replace("X", self.waits(79 - own)))
            self.check_no_deed(side.replace("X", self.waits(80 - own)))
            self.check_no_deed(side.replace("X", self.waits(79)))
            self.check_no_deed(side.replace("X", self.waits(80)))
            self.check_let(side.replace("X", self.waits(78 - own)) + " ; wait")
            self.check_no_deed("wait ; " + side.replace("X", self.waits(79 - own)))

    def test_in_both_sides(self):
        for side, own in (("if a ( X ) else ( Y )", 2), ("either ( X ) or ( Y )", 3), ("try ( X ) on n a ( Y )", 3)):
            side = side.replace("X", self.waits(40))
            self.check_let(side.replace("Y", self.waits(39 - own)))
            self.check_no_deed(side.replace("Y", self.waits(40 - own)))

    def test_empty_sides(self):
        self.check_let(" ; ".join(["if a ( ) else ( )"] * 39 + ["wait"]))
        self.check_no_deed(" ; ".join(["if a ( ) else ( )"] * 40))
        self.check_let(" ; ".join(["either ( ) or ( )"] * 26 + ["wait"]))
        self.check_no_deed(" ; ".join(["either ( ) or ( )"] * 26 + ["wait"] * 2))
        self.check_let(" ; ".join(["try ( ) on n a ( )"] * 26 + ["wait"]))
        self.check_no_deed(" ; ".join(["try ( ) on n a ( )"] * 27))

    def test_very_many_parts(self):
        self.check_no_deed(self.waits(2800))
        self.check_no_deed("either ( " + self.waits(2800) + " ) or ( )")

    def test_a_deed_longer_than_let_is_shown(self):
        self.assertEqual(shown([Wait() for again in range(90)]), self.waits(90))


if __name__ == "__main__":
    unittest.main()
