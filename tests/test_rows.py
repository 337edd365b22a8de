"""The rows of deeds: points 2 and 9."""

import unittest

from retryhall.parts import Either, If, Let, Put, Reckon, Take, Throw, Try, Wait
from retryhall.rows import rows_of
from retryhall.texts import read, shown
from retryhall.words import WIDE

WAIT = ("wait",)
SETTLE = ("settle",)
LAY = ("lay",)


class RowsCase(unittest.TestCase):
    def check(self, deed, rows):
        told = rows_of(deed)
        self.assertEqual(told, rows)
        self.assertIs(type(told), list)
        for row in told:
            self.assertIs(type(row), tuple)
        self.assertEqual(len(told), sum(part.long() for part in deed) + 1)

    def check_text(self, text, rows):
        self.check(read(text), rows)


class PlainRowsTest(RowsCase):
    def test_the_empty_deed(self):
        self.check([], [LAY])

    def test_let(self):
        self.check([Let("a", 0)], [("let", "a", 0), LAY])
        self.check([Let("h", WIDE - 1)], [("let", "h", WIDE - 1), LAY])

    def test_reckon(self):
        for word in ("plus", "minus", "times", "less", "same"):
            self.check([Reckon(word, "c", "a", "b")], [(word, "c", "a", "b"), LAY])

    def test_take(self):
        self.check([Take("a", "b")], [("take", "a", "b"), LAY])

    def test_put(self):
        self.check([Put("a", "b")], [("put", "a", "b"), LAY])

    def test_throw(self):
        self.check([Throw("full", "d")], [("throw", "full", "d"), LAY])
        self.check([Throw("a", "b")], [("throw", "a", "b"), LAY])

    def test_wait(self):
        self.check([Wait()], [WAIT, LAY])

    def test_one_part_behind_the_other(self):
        self.check(
            [Wait(), Let("a", 1), Take("b", "a"), Reckon("plus", "b", "b", "a"), Put("a", "b"), Throw("n", "b")],
            [WAIT, ("let", "a", 1), ("take", "b", "a"), ("plus", "b", "b", "a"), ("put", "a", "b"),
             ("throw", "n", "b"), LAY],
        )


class IfTest(RowsCase):
    def test_empty_sides(self):
        self.check([If("a", [], [])], [("unless", "a", 2), ("jump", 2), LAY])

    def test_one_empty_side(self):
        self.check([If("b", [Wait()], [])], [("unless", "b", 3), WAIT, ("jump", 3), LAY])
        self.check([If("b", [], [Wait()])], [("unless", "b", 2), ("jump", 3), WAIT, LAY])

    def test_several_parts_at_each_side(self):
        self.check_text("if c ( let a 1 ; let a 2 ; let a 3 ) else ( let b 4 ; let b 5 )", [
            ("unless", "c", 5), ("let", "a", 1), ("let", "a", 2), ("let", "a", 3), ("jump", 7), ("let", "b", 4),
            ("let", "b", 5), LAY,
        ])

    def test_behind_and_ahead_of_others(self):
        self.check_text("wait ; let a 1 ; if c ( let a 2 ) else ( let b 4 ; let b 5 ) ; put a b", [
            WAIT, ("let", "a", 1), ("unless", "c", 5), ("let", "a", 2), ("jump", 7), ("let", "b", 4), ("let", "b", 5),
            ("put", "a", "b"), LAY,
        ])
        self.check_text("wait ; if c ( ) else ( ) ; wait", [WAIT, ("unless", "c", 3), ("jump", 3), WAIT, LAY])

    def test_one_behind_another(self):
        self.check_text("if a ( wait ) else ( ) ; if b ( ) else ( wait )", [
            ("unless", "a", 3), WAIT, ("jump", 3), ("unless", "b", 5), ("jump", 6), WAIT, LAY,
        ])


class EitherTest(RowsCase):
    def test_empty_sides(self):
        self.check([Either([], [])], [("either", 3), SETTLE, ("jump", 3), LAY])

    def test_one_empty_side(self):
        self.check([Either([Wait()], [])], [("either", 4), WAIT, SETTLE, ("jump", 4), LAY])
        self.check([Either([], [Wait()])], [("either", 3), SETTLE, ("jump", 4), WAIT, LAY])

    def test_several_parts_at_each_side(self):
        self.check_text("either ( let a 1 ; let a 2 ; let a 3 ) or ( let b 4 ; let b 5 )", [
            ("either", 6), ("let", "a", 1), ("let", "a", 2), ("let", "a", 3), SETTLE, ("jump", 8), ("let", "b", 4),
            ("let", "b", 5), LAY,
        ])

    def test_behind_and_ahead_of_others(self):
        self.check_text("wait ; let a 1 ; either ( let a 2 ) or ( let b 4 ; let b 5 ) ; put a b", [
            WAIT, ("let", "a", 1), ("either", 6), ("let", "a", 2), SETTLE, ("jump", 8), ("let", "b", 4),
            ("let", "b", 5), ("put", "a", "b"), LAY,
        ])
        self.check_text("wait ; either ( ) or ( ) ; wait", [WAIT, ("either", 4), SETTLE, ("jump", 4), WAIT, LAY])


class TryTest(RowsCase):
    def test_empty_sides(self):
        self.check([Try([], "full", "b", [])], [("guard", "full", "b", 3), SETTLE, ("jump", 3), LAY])

    def test_one_empty_side(self):
        self.check([Try([Wait()], "on", "a", [])], [("guard", "on", "a", 4), WAIT, SETTLE, ("jump", 4), LAY])
        self.check([Try([], "on", "a", [Wait()])], [("guard", "on", "a", 3), SETTLE, ("jump", 4), WAIT, LAY])

    def test_several_parts_at_each_side(self):
        self.check_text("try ( let a 1 ; let a 2 ; let a 3 ) on n d ( let b 4 ; let b 5 )", [
            ("guard", "n", "d", 6), ("let", "a", 1), ("let", "a", 2), ("let", "a", 3), SETTLE, ("jump", 8),
            ("let", "b", 4), ("let", "b", 5), LAY,
        ])

    def test_behind_and_ahead_of_others(self):
        self.check_text("wait ; let a 1 ; try ( let a 2 ) on n d ( let b 4 ; let b 5 ) ; put a b", [
            WAIT, ("let", "a", 1), ("guard", "n", "d", 6), ("let", "a", 2), SETTLE, ("jump", 8), ("let", "b", 4),
            ("let", "b", 5), ("put", "a", "b"), LAY,
        ])
        self.check_text("wait ; try ( ) on n d ( ) ; wait", [
            WAIT, ("guard", "n", "d", 4), SETTLE, ("jump", 4), WAIT, LAY,
        ])


class WithinTest(RowsCase):
    def test_if_within_if(self):
        self.check_text("if a ( if b ( wait ) else ( ) ; wait ) else ( if c ( ) else ( wait ) )", [
            ("unless", "a", 6), ("unless", "b", 4), WAIT, ("jump", 4), WAIT, ("jump", 9), ("unless", "c", 8),
            ("jump", 9), WAIT, LAY,
        ])

    def test_either_within_either(self):
        self.check_text("either ( either ( wait ) or ( ) ) or ( either ( ) or ( wait ) )", [
            ("either", 7), ("either", 5), WAIT, SETTLE, ("jump", 5), SETTLE, ("jump", 11), ("either", 10), SETTLE,
            ("jump", 11), WAIT, LAY,
        ])

    def test_try_within_try(self):
        self.check_text("try ( try ( wait ) on m b ( ) ) on n a ( try ( ) on k c ( wait ) )", [
            ("guard", "n", "a", 7), ("guard", "m", "b", 5), WAIT, SETTLE, ("jump", 5), SETTLE, ("jump", 11),
            ("guard", "k", "c", 10), SETTLE, ("jump", 11), WAIT, LAY,
        ])

    def test_all_within_one_another(self):
        self.check_text(
            "let a 1 ; try ( if a ( either ( wait ) or ( put a a ) ; let b 2 ) else ( throw n a ) ) on n c "
            "( either ( if c ( ) else ( wait ) ) or ( ) ; take d c ) ; put a d",
            [
                ("let", "a", 1), ("guard", "n", "c", 13), ("unless", "a", 10), ("either", 7), WAIT, SETTLE,
                ("jump", 8), ("put", "a", "a"), ("let", "b", 2), ("jump", 11), ("throw", "n", "a"), SETTLE,
                ("jump", 20), ("either", 19), ("unless", "c", 16), ("jump", 17), WAIT, SETTLE, ("jump", 19),
                ("take", "d", "c"), ("put", "a", "d"), LAY,
            ],
        )

    def test_each_kind_within_each_side(self):
        # Within a side the rows of a part are those that it has alone, led to places further on.
        sides = (("if a ( X ) else ( wait )", 1), ("if a ( wait ) else ( X )", 3), ("either ( X ) or ( wait )", 1),
                 ("either ( wait ) or ( X )", 4), ("try ( X ) on n a ( wait )", 1), ("try ( wait ) on n a ( X )", 4))
        inners = ("let a 7", "if b ( wait ) else ( wait ; wait )", "either ( wait ) or ( wait ; wait )",
                  "try ( wait ) on m c ( wait ; wait )")
        for side, first in sides:
            for inner in inners:
                alone = rows_of(read(inner))[:-1]
                further = [
                    row[:-1] + (row[-1] + first,) if row[0] in ("unless", "either", "guard", "jump") else row
                    for row in alone
                ]
                told = rows_of(read(side.replace("X", inner)))
                self.assertEqual(told[first:first + len(alone)], further, (side, inner))

    def test_what_a_row_leads_to_stands_behind_it(self):
        deed = read("wait ; either ( if a ( ) else ( ) ) or ( try ( ) on n a ( ) ; if b ( wait ) else ( ) ) ; wait")
        rows = rows_of(deed)
        for place, row in enumerate(rows):
            if row[0] in ("unless", "either", "guard", "jump"):
                self.assertTrue(place < row[-1] < len(rows), row)

    def test_a_deed_longer_and_deeper_than_let(self):
        deed = [Wait()]
        for times in range(12):
            deed = [Either(deed, [])]
        rows = rows_of(deed)
        self.assertEqual(rows[:12], [("either", 37 - times) for times in range(0, 24, 2)])
        self.assertEqual(rows[12], WAIT)
        self.assertEqual(len(rows), 38)
        self.check([Wait() for times in range(90)], [WAIT] * 90 + [LAY])


class OwnListsTest(RowsCase):
    TEXT = "wait ; either ( let a 1 ) or ( if a ( ) else ( wait ) )"

    def test_the_deed_handed_in_stays(self):
        deed = read(self.TEXT)
        parts = list(deed)
        for again in range(2):
            rows_of(deed)
            self.assertEqual(deed, parts)
            self.assertEqual(shown(deed), self.TEXT)

    def test_the_list_told_is_the_askers_own(self):
        deed = read(self.TEXT)
        one, other = rows_of(deed), rows_of(deed)
        kept = list(other)
        one.append(("wait",))
        one[0] = ("lay",)
        self.assertEqual(other, kept)
        self.assertEqual(rows_of(deed), kept)
        rows_of([]).clear()
        self.assertEqual(rows_of([]), [LAY])

    def test_the_list_told_stays_when_the_deed_is_changed(self):
        deed = read(self.TEXT)
        told = rows_of(deed)
        kept = list(told)
        deed[1].parts.append(Wait())
        deed.clear()
        self.assertEqual(told, kept)


if __name__ == "__main__":
    unittest.main()
