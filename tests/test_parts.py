"""The parts of deeds: points 2, 6, 7 and 9, as far as a part is concerned."""

import unittest

from retryhall import parts
from retryhall.parts import Either, If, Let, Part, Put, Reckon, Take, Throw, Try, Wait
from retryhall.words import WIDE

KINDS = (Let, Reckon, Take, Put, If, Either, Try, Throw, Wait)
NAMES = ("Let", "Reckon", "Take", "Put", "If", "Either", "Try", "Throw", "Wait")


class KindsTest(unittest.TestCase):
    def test_each_kind_is_there_under_its_name(self):
        for name in ("Part",) + NAMES:
            self.assertIsInstance(getattr(parts, name), type)
            self.assertEqual(getattr(parts, name).__name__, name)

    def test_each_kind_stands_under_part(self):
        for kind in KINDS:
            self.assertTrue(issubclass(kind, Part), kind)

    def test_no_kind_stands_under_another(self):
        for one in KINDS:
            for other in KINDS:
                self.assertEqual(issubclass(one, other), one is other, (one, other))

    def test_a_part_itself(self):
        part = Part()
        self.assertEqual(part.shown(), "")
        self.assertEqual(part.long(), 0)


class PartCase(unittest.TestCase):
    def check(self, part, text, rows, values):
        self.assertEqual(part.shown(), text)
        self.assertEqual(part.long(), rows)
        self.assertIsInstance(part, Part)
        for name, value in values.items():
            self.assertEqual(getattr(part, name), value, name)


class PlainPartsTest(PartCase):
    def test_let(self):
        self.check(Let("a", 0), "let a 0", 1, {"slot": "a", "number": 0})
        self.check(Let("h", 17), "let h 17", 1, {"slot": "h", "number": 17})
        self.check(Let("c", WIDE - 1), "let c 18446744073709551615", 1, {"slot": "c", "number": WIDE - 1})

    def test_reckon(self):
        for word in ("plus", "minus", "times", "less", "same"):
            values = {"word": word, "slot": "c", "one": "a", "other": "b"}
            self.check(Reckon(word, "c", "a", "b"), word + " c a b", 1, values)
        self.check(Reckon("plus", "d", "d", "d"), "plus d d d", 1, {"slot": "d", "one": "d", "other": "d"})

    def test_take(self):
        self.check(Take("a", "b"), "take a b", 1, {"slot": "a", "place": "b"})
        self.check(Take("h", "h"), "take h h", 1, {"slot": "h", "place": "h"})

    def test_put(self):
        self.check(Put("a", "b"), "put a b", 1, {"place": "a", "slot": "b"})
        self.check(Put("g", "a"), "put g a", 1, {"place": "g", "slot": "a"})

    def test_throw(self):
        self.check(Throw("full", "d"), "throw full d", 1, {"name": "full", "slot": "d"})
        self.check(Throw("on", "a"), "throw on a", 1, {"name": "on", "slot": "a"})
        self.check(Throw("a", "b"), "throw a b", 1, {"name": "a", "slot": "b"})

    def test_wait(self):
        self.check(Wait(), "wait", 1, {})


class SidesTest(PartCase):
    def test_empty_sides(self):
        self.check(If("a", [], []), "if a ( ) else ( )", 2, {"slot": "a", "parts": [], "others": []})
        self.check(Either([], []), "either ( ) or ( )", 3, {"parts": [], "others": []})
        values = {"parts": [], "name": "full", "slot": "b", "others": []}
        self.check(Try([], "full", "b", []), "try ( ) on full b ( )", 3, values)

    def test_one_empty_side(self):
        wait = Wait()
        self.check(If("a", [], [wait]), "if a ( ) else ( wait )", 3, {"parts": [], "others": [wait]})
        self.check(If("a", [wait], []), "if a ( wait ) else ( )", 3, {"parts": [wait], "others": []})
        self.check(Either([], [wait]), "either ( ) or ( wait )", 4, {"parts": [], "others": [wait]})
        self.check(Either([wait], []), "either ( wait ) or ( )", 4, {"parts": [wait], "others": []})
        self.check(Try([], "on", "a", [wait]), "try ( ) on on a ( wait )", 4, {"parts": [], "others": [wait]})
        self.check(Try([wait], "on", "a", []), "try ( wait ) on on a ( )", 4, {"parts": [wait], "others": []})

    def test_several_parts_in_a_side(self):
        ones = [Let("a", 1), Take("b", "a"), Put("a", "b")]
        others = [Throw("full", "c"), Wait()]
        one_text = "let a 1 ; take b a ; put a b"
        other_text = "throw full c ; wait"
        self.check(If("d", ones, others), "if d ( " + one_text + " ) else ( " + other_text + " )", 7,
                   {"slot": "d", "parts": ones, "others": others})
        self.check(Either(ones, others), "either ( " + one_text + " ) or ( " + other_text + " )", 8,
                   {"parts": ones, "others": others})
        self.check(Try(ones, "empty", "e", others), "try ( " + one_text + " ) on empty e ( " + other_text + " )", 8,
                   {"parts": ones, "name": "empty", "slot": "e", "others": others})

    def test_sides_within_sides(self):
        inner = If("a", [Wait()], [])
        middle = Either([Let("b", 2), inner], [Throw("x", "a")])
        put = Put("a", "b")
        outer = Try([middle, put], "x", "c", [inner, middle])
        inner_text = "if a ( wait ) else ( )"
        middle_text = "either ( let b 2 ; " + inner_text + " ) or ( throw x a )"
        outer_text = "try ( " + middle_text + " ; put a b ) on x c ( " + inner_text + " ; " + middle_text + " )"
        self.check(inner, inner_text, 3, {})
        self.check(middle, middle_text, 8, {})
        self.check(outer, outer_text, 3 + 8 + 1 + 3 + 8, {"parts": [middle, put], "others": [inner, middle]})

    def test_each_kind_within_each_kind(self):
        rows = {"if a": 2, "either": 3, "try": 3}
        made = [
            ("if a", lambda a, b: If("a", a, b), "if a ( X ) else ( Y )"),
            ("either", lambda a, b: Either(a, b), "either ( X ) or ( Y )"),
            ("try", lambda a, b: Try(a, "n", "a", b), "try ( X ) on n a ( Y )"),
        ]
        for outer_name, outer, outer_text in made:
            for inner_name, inner, inner_text in made:
                within = inner_text.replace("X", "wait").replace("Y", "wait ; wait")
                part = outer([inner([Wait()], [Wait(), Wait()])], [Wait()])
                self.assertEqual(part.shown(), outer_text.replace("Y", "wait").replace("X", within))
                self.assertEqual(part.long(), rows[outer_name] + rows[inner_name] + 3 + 1)
                part = outer([Wait()], [inner([Wait()], [Wait(), Wait()])])
                self.assertEqual(part.shown(), outer_text.replace("X", "wait").replace("Y", within))
                self.assertEqual(part.long(), rows[outer_name] + 1 + rows[inner_name] + 3)

    def test_sides_deeper_than_a_deed_may_be(self):
        part = If("a", [], [])
        text = "if a ( ) else ( )"
        for depth in range(1, 13):
            part = If("a", [part], [])
            text = "if a ( " + text + " ) else ( )"
            self.assertEqual(part.shown(), text)
            self.assertEqual(part.long(), 2 * (depth + 1))

    def test_a_side_longer_than_a_deed_may_be(self):
        part = Either([Wait()] * 90, [Wait()] * 2)
        self.assertEqual(part.long(), 95)
        self.assertEqual(part.shown(), "either ( " + " ; ".join(["wait"] * 90) + " ) or ( wait ; wait )")


class CopiesTest(unittest.TestCase):
    def made(self, ones, others):
        return (If("a", ones, others), Either(ones, others), Try(ones, "n", "a", others))

    def test_lists_handed_in_stay_as_they_were(self):
        first, second, third = Wait(), Let("a", 1), Either([], [])
        ones, others = [first, second], [third]
        for part in self.made(ones, others):
            part.shown()
            part.long()
        self.assertEqual(ones, [first, second])
        self.assertEqual(others, [third])

    def test_changing_them_behind_the_call_changes_nothing(self):
        first, second = Wait(), Let("a", 1)
        ones, others = [first], [second]
        made = self.made(ones, others)
        before = [(part.shown(), part.long()) for part in made]
        ones.append(Wait())
        others.clear()
        for part in made:
            self.assertEqual(part.parts, [first])
            self.assertEqual(part.others, [second])
        self.assertEqual([(part.shown(), part.long()) for part in made], before)

    def test_one_list_for_both_sides(self):
        both = [Wait()]
        for part in self.made(both, both):
            part.parts.append(Wait())
            self.assertEqual(len(part.others), 1)
            self.assertEqual(len(both), 1)

    def test_parts_made_of_the_same_lists_share_nothing(self):
        ones, others = [Wait()], []
        for one, other in zip(self.made(ones, others), self.made(ones, others)):
            one.parts.append(Wait())
            one.others.append(Wait())
            self.assertEqual(len(other.parts), 1)
            self.assertEqual(other.others, [])

    def test_an_inner_list_changed_behind_the_call_changes_nothing(self):
        innermost = [Wait()]
        middle = [If("a", innermost, [])]
        outer = Try(middle, "n", "a", middle)
        before = (outer.shown(), outer.long())
        innermost.append(Wait())
        middle.append(Wait())
        self.assertEqual((outer.shown(), outer.long()), before)

    def test_asking_changes_nothing(self):
        wait = Wait()
        part = Try([wait], "n", "a", [If("b", [], [wait])])
        for again in range(3):
            self.assertEqual(part.shown(), "try ( wait ) on n a ( if b ( ) else ( wait ) )")
            self.assertEqual(part.long(), 7)
        self.assertEqual(part.parts, [wait])


if __name__ == "__main__":
    unittest.main()
