"""Deeds done alone: points 2, 4, 11, 12 and 13."""

import random
import unittest

from retryhall.alone import alone
from retryhall.parts import Either, If, Let, Put, Reckon, Take, Throw, Try, Wait
from retryhall.rows import rows_of
from retryhall.texts import read, shown
from retryhall.words import WIDE, reckon

DONE = ("done",)
WAITS = ("waits",)
WORDS = ("plus", "minus", "times", "less", "same")


def slots(**numbers):
    return [numbers.get(slot, 0) for slot in "abcdefgh"]


class AloneCase(unittest.TestCase):
    def check(self, text, boxes, before, end, saw, wrote, after):
        told = alone(read(text), boxes, before)
        self.assertEqual(told, (end, saw, wrote, after), text)
        self.check_kinds(told)

    def check_kinds(self, told):
        self.assertIs(type(told), tuple)
        self.assertIs(type(told[0]), tuple)
        for part in told[1:]:
            self.assertIs(type(part), list)
        for row in told[1] + told[2]:
            self.assertIs(type(row), tuple)

    def check_done(self, text, boxes, before, saw, wrote, after):
        self.check(text, boxes, before, DONE, saw, wrote, after)

    def check_waits(self, text, boxes, before, saw):
        self.check(text, boxes, before, WAITS, saw, [], before)

    def check_fell(self, text, boxes, before, name, number, saw):
        self.check(text, boxes, before, ("fell", name, number), saw, [], before)


class PlainPartsTest(AloneCase):
    def test_the_empty_deed(self):
        self.check_done("", [5], slots(a=3), [], [], slots(a=3))

    def test_let(self):
        self.check_done("let a 7", [5], slots(), [], [], slots(a=7))
        self.check_done("let h 18446744073709551615", [5], slots(h=1), [], [], slots(h=WIDE - 1))
        self.check_done("let a 7 ; let b 8 ; let a 0", [5], slots(), [], [], slots(b=8))

    def test_each_slot(self):
        for slot in "abcdefgh":
            self.check_done("let " + slot + " 9", [0], slots(), [], [], slots(**{slot: 9}))

    def test_reckon(self):
        for word, one, other, answer in (
            ("plus", 2, 3, 5), ("plus", WIDE - 1, 2, 1), ("minus", 5, 3, 2), ("minus", 3, 5, WIDE - 2),
            ("times", 6, 7, 42), ("times", WIDE - 1, 2, WIDE - 2), ("less", 2, 3, 1), ("less", 3, 2, 0),
            ("less", 2, 2, 0), ("same", 2, 2, 1), ("same", 2, 3, 0), ("same", 0, 0, 1),
        ):
            self.check_done(word + " c a b", [0], slots(a=one, b=other, c=9), [], [], slots(a=one, b=other, c=answer))

    def test_reckon_into_a_slot_that_it_reckons_with(self):
        self.check_done("plus a a a", [0], slots(a=4), [], [], slots(a=8))
        self.check_done("minus b a b", [0], slots(a=4, b=1), [], [], slots(a=4, b=3))
        self.check_done("same a a a", [0], slots(a=4), [], [], slots(a=1))

    def test_take(self):
        self.check_done("take b a", [10, 11, 12], slots(a=1), [(1, 11)], [], slots(a=1, b=11))
        self.check_done("take a a", [10, 11, 12], slots(a=2), [(2, 12)], [], slots(a=12))
        self.check_done("take b a", [0], slots(b=4), [(0, 0)], [], slots())

    def test_put(self):
        self.check_done("put a b", [10, 11, 12], slots(a=1, b=5), [], [(1, 5)], slots(a=1, b=5))
        self.check_done("put a a", [10, 11, 12], slots(a=2), [], [(2, 2)], slots(a=2))
        self.check_done("put a b", [10], slots(), [], [(0, 0)], slots())
        self.check_done("put a b", [10], slots(b=10), [], [(0, 10)], slots(b=10))

    def test_places_beyond_the_boxes(self):
        for count in (1, 2, 3, 7, 15, 16):
            boxes = [100 + box for box in range(count)]
            for number in (0, 1, count - 1, count, count + 1, 5 * count + 1, WIDE - 1):
                box = number % count
                before = slots(a=number, b=7)
                self.check_done("take b a", boxes, before, [(box, 100 + box)], [], slots(a=number, b=100 + box))
                self.check_done("put a b", boxes, before, [], [(box, 7)], before)

    def test_places_that_are_the_same_box(self):
        self.check_done("put a b ; take d c", [1, 2, 3], slots(a=1, b=9, c=4), [], [(1, 9)],
                        slots(a=1, b=9, c=4, d=9))
        self.check_done("put a b ; put c d", [1, 2, 3], slots(a=5, b=9, c=2, d=8), [], [(2, 8)],
                        slots(a=5, b=9, c=2, d=8))

    def test_take_of_what_the_log_has(self):
        self.check_done("put a b ; take c a", [10, 11], slots(a=1, b=5), [], [(1, 5)], slots(a=1, b=5, c=5))
        self.check_done("put a b ; take c a", [10, 11], slots(a=1), [], [(1, 0)], slots(a=1))
        self.check_done("take c a ; put a b ; take d a", [10, 11], slots(a=1, b=5), [(1, 11)], [(1, 5)],
                        slots(a=1, b=5, c=11, d=5))
        self.check_done("put a b ; take c d", [10, 11], slots(a=1, b=5), [(0, 10)], [(1, 5)], slots(a=1, b=5, c=10))

    def test_taking_again(self):
        self.check_done("take b a ; take c a ; take d c", [1, 0], slots(), [(0, 1), (1, 0)], [], slots(b=1, c=1))

    def test_lists_rise_by_boxes(self):
        text = "let a 11 ; take h a ; put a a ; let a 3 ; take h a ; put a a ; let a 10 ; take h a ; put a a"
        self.check_done(text, list(range(50, 62)), slots(), [(3, 53), (10, 60), (11, 61)],
                        [(3, 3), (10, 10), (11, 11)], slots(a=10, h=60))

    def test_boxes_are_not_changed_by_puts(self):
        self.check_done("put a b ; put c b ; take d a", [10, 11], slots(a=0, b=5, c=1), [], [(0, 5), (1, 5)],
                        slots(b=5, c=1, d=5))


class EndsTest(AloneCase):
    def test_waits(self):
        self.check_waits("wait", [5], slots(a=3), [])
        self.check_waits("let a 1 ; take b a ; put a a ; wait ; let c 9", [5, 6], slots(a=3, b=4), [(1, 6)])

    def test_fell(self):
        self.check_fell("throw full a", [5], slots(a=3), "full", 3, [])
        self.check_fell("throw wait b", [5], slots(a=3), "wait", 0, [])
        self.check_fell("let a 1 ; take b a ; put a a ; throw n b ; let c 9", [5, 6], slots(a=3, b=4), "n", 6, [(1, 6)])

    def test_done(self):
        self.check_done("let a 1 ; take b a ; put a a", [5, 6], slots(a=3, b=4), [(1, 6)], [(1, 1)], slots(a=1, b=6))

    def test_nothing_is_gone_behind_the_end(self):
        self.check_waits("wait ; throw n a ; take a a", [5], slots(), [])
        self.check_fell("throw n a ; wait ; take a a", [5], slots(), "n", 0, [])

    def test_the_number_is_that_of_the_throw(self):
        self.check_fell("let a 8 ; throw n a", [5], slots(a=3), "n", 8, [])
        self.check_fell("try ( let a 8 ; throw n a ) on m b ( )", [5], slots(a=3), "n", 8, [])
        self.check_fell("either ( let a 8 ; throw n a ) or ( )", [5], slots(a=3), "n", 8, [])


class IfTest(AloneCase):
    def test_both_sides(self):
        text = "if a ( let b 1 ) else ( let b 2 ) ; let c 3"
        self.check_done(text, [0], slots(a=1), [], [], slots(a=1, b=1, c=3))
        self.check_done(text, [0], slots(a=WIDE - 1), [], [], slots(a=WIDE - 1, b=1, c=3))
        self.check_done(text, [0], slots(a=0), [], [], slots(b=2, c=3))

    def test_empty_sides(self):
        self.check_done("if a ( ) else ( wait )", [0], slots(a=1), [], [], slots(a=1))
        self.check_waits("if a ( ) else ( wait )", [0], slots(), [])
        self.check_done("if a ( wait ) else ( )", [0], slots(), [], [], slots())
        self.check_waits("if a ( wait ) else ( )", [0], slots(a=2), [])

    def test_only_one_side_is_gone(self):
        self.check_done("if a ( let a 0 ) else ( let a 1 )", [0], slots(a=1), [], [], slots())
        self.check_done("if a ( let a 0 ) else ( let a 1 )", [0], slots(), [], [], slots(a=1))
        self.check_done("if a ( take b a ) else ( put a b )", [7], slots(a=1), [(0, 7)], [], slots(a=1, b=7))
        self.check_done("if a ( take b a ) else ( put a b )", [7], slots(b=4), [], [(0, 4)], slots(b=4))

    def test_writings_of_a_side_stay(self):
        self.check_done("if a ( put b a ; let c 2 ) else ( ) ; take d b", [7], slots(a=1), [], [(0, 1)],
                        slots(a=1, c=2, d=1))

    def test_within_one_another(self):
        text = "if a ( if b ( let c 1 ) else ( let c 2 ) ) else ( if b ( let c 3 ) else ( let c 4 ) )"
        for a, b, c in ((1, 1, 1), (1, 0, 2), (0, 1, 3), (0, 0, 4)):
            self.check_done(text, [0], slots(a=a, b=b), [], [], slots(a=a, b=b, c=c))


class EitherTest(AloneCase):
    def test_the_first_side_ends(self):
        self.check_done("either ( let a 1 ; put b a ) or ( let a 2 ; put c a ) ; let d 3", [5, 6], slots(c=1), [],
                        [(0, 1)], slots(a=1, c=1, d=3))
        self.check_done("either ( ) or ( wait )", [5], slots(), [], [], slots())

    def test_the_first_side_waits(self):
        self.check_done("either ( let a 1 ; put b a ; wait ) or ( let e 2 ; put c e ) ; let d 3", [5, 6], slots(c=1),
                        [], [(1, 2)], slots(c=1, d=3, e=2))
        self.check_done("either ( wait ) or ( )", [5], slots(a=4), [], [], slots(a=4))

    def test_the_first_side_waits_behind_an_if(self):
        text = "either ( take b a ; if b ( let c 1 ) else ( wait ) ; let d 2 ) or ( let e 3 )"
        self.check_done(text, [0], slots(d=9), [(0, 0)], [], slots(d=9, e=3))
        self.check_done(text, [4], slots(d=9), [(0, 4)], [], slots(b=4, c=1, d=2))

    def test_both_sides_wait(self):
        self.check_waits("either ( take b a ; wait ) or ( let a 1 ; take b a ; wait )", [5, 6], slots(h=1),
                         [(0, 5), (1, 6)])

    def test_what_the_side_that_was_left_saw_stays_seen(self):
        self.check_done("either ( take b a ; put a b ; wait ) or ( )", [5], slots(), [(0, 5)], [], slots())

    def test_what_the_side_that_was_left_wrote_is_not_taken(self):
        self.check_done("either ( put a b ; wait ) or ( take c a )", [5], slots(b=9), [(0, 5)], [], slots(b=9, c=5))
        self.check_done("put a h ; either ( put a b ; wait ) or ( take c a )", [5], slots(b=9, h=3), [], [(0, 3)],
                        slots(b=9, c=3, h=3))

    def test_what_was_written_ahead_is_taken_within(self):
        self.check_done("put a b ; either ( take c a ; put a c ) or ( )", [5], slots(b=9), [], [(0, 9)],
                        slots(b=9, c=9))

    def test_slots_are_those_of_the_begin_of_the_either(self):
        self.check_done("let a 1 ; let b 2 ; either ( let a 3 ; let c 4 ; wait ) or ( plus d a b )", [5], slots(a=8),
                        [], [], slots(a=1, b=2, d=3))

    def test_writings_settled_over_those_ahead(self):
        self.check_done("put a b ; either ( put a c ; put d c ) or ( )", [5, 6], slots(b=1, c=2, d=1), [],
                        [(0, 2), (1, 2)], slots(b=1, c=2, d=1))

    def test_a_wait_behind_the_either_is_not_taken(self):
        self.check_waits("either ( let a 1 ) or ( let a 2 ) ; wait", [5], slots(), [])
        self.check_waits("either ( wait ) or ( let a 2 ) ; wait", [5], slots(), [])
        self.check_waits("either ( ) or ( let a 2 ) ; if a ( ) else ( wait )", [5], slots(), [])

    def test_a_wait_in_the_other_side_is_not_taken(self):
        self.check_waits("either ( wait ) or ( wait )", [5], slots(), [])
        self.check_waits("either ( wait ) or ( let a 1 ; put a a ; wait )", [5], slots(a=7), [])

    def test_an_either_within_the_first_side(self):
        self.check_done("either ( either ( let a 1 ; wait ) or ( let b 2 ) ; let c 3 ) or ( let d 4 )", [5], slots(),
                        [], [], slots(b=2, c=3))
        self.check_done("either ( either ( let a 1 ; wait ) or ( let b 2 ; wait ) ; let c 3 ) or ( let d 4 )", [5],
                        slots(), [], [], slots(d=4))
        self.check_done("either ( either ( let a 1 ) or ( let b 2 ) ; wait ) or ( let d 4 )", [5], slots(), [], [],
                        slots(d=4))

    def test_an_either_within_the_other_side(self):
        self.check_done("either ( wait ) or ( either ( let a 1 ; wait ) or ( let b 2 ) ; let c 3 )", [5], slots(), [],
                        [], slots(b=2, c=3))
        self.check_done("either ( wait ) or ( either ( let a 1 ) or ( let b 2 ) )", [5], slots(), [], [], slots(a=1))
        self.check_waits("either ( wait ) or ( either ( wait ) or ( wait ) )", [5], slots(), [])

    def test_writings_of_eithers_within_one_another(self):
        text = "either ( put a a ; either ( put b b ; X ) or ( put c c ) ; Y ) or ( put d d )"
        before = slots(a=0, b=1, c=2, d=3)
        boxes = [9, 9, 9, 9]
        for inner, outer, wrote in (
            ("let h 0", "let h 0", [(0, 0), (1, 1)]), ("wait", "let h 0", [(0, 0), (2, 2)]),
            ("let h 0", "wait", [(3, 3)]), ("wait", "wait", [(3, 3)]),
        ):
            self.check_done(text.replace("X", inner).replace("Y", outer), boxes, before, [], wrote, before)

    def test_one_behind_another(self):
        self.check_done("either ( let a 1 ; wait ) or ( let b 1 ) ; either ( let c 1 ) or ( wait ) ; put c b", [5, 6],
                        slots(), [], [(1, 1)], slots(b=1, c=1))

    def test_a_throw_goes_through_an_either(self):
        self.check_fell("either ( let a 3 ; put a a ; throw n a ) or ( let b 1 )", [5], slots(), "n", 3, [])
        self.check_fell("either ( wait ) or ( let a 4 ; throw n a )", [5], slots(), "n", 4, [])


class TryTest(AloneCase):
    def test_the_guarded_part_ends(self):
        self.check_done("try ( let a 1 ; put b a ) on n c ( let d 9 ) ; let e 3", [5], slots(c=7), [], [(0, 1)],
                        slots(a=1, c=7, e=3))
        self.check_done("try ( ) on n a ( wait )", [5], slots(a=2), [], [], slots(a=2))

    def test_it_throws_its_name(self):
        self.check_done("try ( let a 6 ; put b a ; throw n a ; let g 1 ) on n c ( let d 9 ) ; let e 3", [5],
                        slots(c=7), [], [], slots(c=6, d=9, e=3))
        self.check_done("try ( throw n a ) on n b ( )", [5], slots(a=2), [], [], slots(a=2, b=2))

    def test_the_number_is_put_over_the_slots_of_the_begin(self):
        self.check_done("let a 1 ; try ( let a 6 ; throw n a ) on n a ( )", [5], slots(), [], [], slots(a=6))
        self.check_done("let a 1 ; try ( let a 6 ; let b 7 ; throw n b ) on n c ( )", [5], slots(), [], [],
                        slots(a=1, c=7))
        self.check_done("try ( throw n a ) on n b ( )", [5], slots(b=4), [], [], slots())

    def test_it_throws_another_name(self):
        self.check_fell("try ( let a 6 ; put b a ; throw m a ) on n c ( let d 9 )", [5], slots(c=7), "m", 6, [])
        self.check_fell("try ( throw nn a ) on n c ( )", [5], slots(a=1), "nn", 1, [])
        self.check_fell("try ( throw n a ) on nn c ( )", [5], slots(a=1), "n", 1, [])

    def test_it_waits(self):
        self.check_waits("try ( let a 6 ; put b a ; wait ) on n c ( let d 9 )", [5], slots(c=7), [])
        self.check_waits("try ( wait ) on wait c ( let d 9 )", [5], slots(c=7), [])

    def test_what_the_guarded_part_saw_stays_seen(self):
        self.check_done("try ( take b a ; put a b ; throw n b ) on n c ( )", [5], slots(), [(0, 5)], [], slots(c=5))

    def test_what_the_guarded_part_wrote_is_not_taken(self):
        self.check_done("try ( put a b ; throw n b ) on n c ( take d a )", [5], slots(b=9), [(0, 5)], [],
                        slots(b=9, c=9, d=5))
        self.check_done("put a h ; try ( put a b ; throw n b ) on n c ( take d a )", [5], slots(b=9, h=3), [],
                        [(0, 3)], slots(b=9, c=9, d=3, h=3))

    def test_a_throw_out_of_the_other_side_is_not_taken(self):
        self.check_fell("try ( throw n a ) on n c ( let a 5 ; throw n a )", [5], slots(a=1), "n", 5, [])
        self.check_fell("try ( throw n a ) on n c ( throw n c )", [5], slots(a=1), "n", 1, [])
        self.check_fell("try ( throw n a ) on n c ( throw m c )", [5], slots(a=1), "m", 1, [])

    def test_a_throw_out_of_the_other_side_is_taken_further_out(self):
        self.check_done("try ( try ( throw n a ) on n b ( let a 5 ; throw n a ) ) on n c ( let d 2 )", [5],
                        slots(a=1), [], [], slots(a=1, c=5, d=2))
        self.check_done("try ( try ( throw n a ) on n b ( put a b ; throw m b ) ) on m c ( )", [5], slots(a=1), [],
                        [], slots(a=1, c=1))

    def test_a_throw_behind_the_try_is_not_taken(self):
        self.check_fell("try ( ) on n c ( let d 2 ) ; throw n a", [5], slots(a=1), "n", 1, [])
        self.check_fell("try ( throw n a ) on n c ( let d 2 ) ; throw n d", [5], slots(a=1), "n", 2, [])

    def test_the_nearest_of_its_name_takes_it(self):
        text = "try ( try ( try ( throw X a ) on l b ( ) ; let g 1 ) on m c ( ) ; let h 1 ) on n d ( )"
        self.check_done(text.replace("X", "l"), [5], slots(a=3), [], [], slots(a=3, b=3, g=1, h=1))
        self.check_done(text.replace("X", "m"), [5], slots(a=3), [], [], slots(a=3, c=3, h=1))
        self.check_done(text.replace("X", "n"), [5], slots(a=3), [], [], slots(a=3, d=3))
        self.check_fell(text.replace("X", "k"), [5], slots(a=3), "k", 3, [])
        text = "try ( try ( throw n a ) on n b ( let g 1 ) ; let h 1 ) on n c ( let g 2 )"
        self.check_done(text, [5], slots(a=3), [], [], slots(a=3, b=3, g=1, h=1))

    def test_a_wait_in_the_other_side(self):
        self.check_waits("try ( throw n a ) on n c ( wait )", [5], slots(a=1), [])

    def test_a_throw_behind_an_if(self):
        text = "try ( take b a ; if b ( throw full b ) else ( put a c ) ) on full d ( let e 1 )"
        self.check_done(text, [4], slots(c=2), [(0, 4)], [], slots(c=2, d=4, e=1))
        self.check_done(text, [0], slots(c=2), [(0, 0)], [(0, 2)], slots(c=2))


class EitherAndTryTest(AloneCase):
    def test_a_wait_goes_through_tries(self):
        self.check_done(
            "either ( let a 1 ; try ( let b 1 ; put a b ; try ( wait ) on n d ( let d 9 ) ) on m e ( let e 9 ) ) "
            "or ( let f 1 )", [5, 6], slots(), [], [], slots(f=1))

    def test_a_throw_goes_through_eithers(self):
        self.check_done(
            "try ( let a 1 ; either ( put a a ; either ( throw n a ) or ( let d 9 ) ) or ( let e 9 ) ) on n c "
            "( let f 1 )", [5, 6], slots(), [], [], slots(c=1, f=1))

    def test_a_throw_out_of_an_eithers_other_side(self):
        self.check_done("try ( either ( wait ) or ( let a 2 ; put a a ; throw n a ) ) on n c ( let f 1 )", [5, 6],
                        slots(), [], [], slots(c=2, f=1))

    def test_a_wait_out_of_a_trys_other_side(self):
        self.check_done("either ( try ( throw n a ) on n c ( put a c ; wait ) ) or ( let f 1 )", [5], slots(a=3), [],
                        [], slots(a=3, f=1))

    def test_a_try_in_an_eithers_other_side_takes(self):
        self.check_done("either ( wait ) or ( try ( throw n a ) on n c ( let f 1 ) )", [5], slots(a=3), [], [],
                        slots(a=3, c=3, f=1))

    def test_an_either_in_a_trys_other_side_takes(self):
        self.check_done("try ( throw n a ) on n c ( either ( let g 1 ; wait ) or ( let f 1 ) )", [5], slots(a=3), [],
                        [], slots(a=3, c=3, f=1))

    def test_all_layers_begun_since_are_dropped(self):
        # What was written ahead of the either that takes the wait stays; what was written since goes.
        self.check_done(
            "put a a ; either ( put b b ; try ( put c c ; either ( put d d ) or ( ) ; wait ) on n h ( ) ) or ( ) ; "
            "put e e", [9] * 5, slots(a=0, b=1, c=2, d=3, e=4), [], [(0, 0), (4, 4)], slots(a=0, b=1, c=2, d=3, e=4))
        self.check_done(
            "put a a ; try ( put b b ; either ( put c c ; try ( put d d ) on n h ( ) ; throw n d ) or ( ) ) on n h "
            "( ) ; put e e",
            [9] * 5, slots(a=0, b=1, c=2, d=3, e=4), [], [(0, 0), (4, 4)], slots(a=0, b=1, c=2, d=3, e=4, h=3))

    def test_what_goes_on_behind_writes_beneath(self):
        # Behind a side that was left the log has just the layers that it had, so all is laid down at the end.
        self.check_done("either ( try ( wait ) on n a ( ) ) or ( put b c ) ; put d c", [5, 6], slots(c=7, d=1), [],
                        [(0, 7), (1, 7)], slots(c=7, d=1))

    def test_names_of_no_account_to_waits(self):
        self.check_fell("either ( throw wait a ) or ( )", [5], slots(a=1), "wait", 1, [])
        self.check_done("try ( throw waits a ) on waits b ( )", [5], slots(a=1), [], [], slots(a=1, b=1))
        self.check_done("try ( throw done a ) on done b ( )", [5], slots(a=1), [], [], slots(a=1, b=1))
        self.check_done("try ( throw fell a ) on fell b ( )", [5], slots(a=1), [], [], slots(a=1, b=1))


class OwnListsTest(AloneCase):
    TEXTS = (
        "", "let a 1 ; take b a ; put a b", "put a a ; wait", "let a 1 ; take a a ; throw n a",
        "either ( let a 1 ; put a a ; wait ) or ( put a b )",
        "try ( let a 1 ; put a a ; throw n a ) on n b ( put b a )",
    )

    def test_what_is_handed_in_stays(self):
        for text in self.TEXTS:
            deed, boxes, before = read(text), [5, 6, 7], slots(a=2, h=9)
            parts = list(deed)
            for again in range(2):
                alone(deed, boxes, before)
                self.assertEqual(deed, parts)
                self.assertEqual(shown(deed), text)
                self.assertEqual(boxes, [5, 6, 7])
                self.assertEqual(before, slots(a=2, h=9))

    def test_what_is_told_is_the_askers_own(self):
        for text in self.TEXTS:
            deed, boxes, before = read(text), [5, 6, 7], slots(a=2, h=9)
            told = alone(deed, boxes, before)
            again = alone(deed, boxes, before)
            self.assertEqual(told, again)
            for part in told[1:]:
                part.append(99)
            told[3][0] = 77
            self.assertEqual(before, slots(a=2, h=9))
            self.assertEqual(alone(deed, boxes, before), again)
            kept = (again[0],) + tuple(list(part) for part in again[1:])
            boxes.clear()
            before[0] = 55
            deed.clear()
            self.assertEqual(again, kept)

    def test_lists_told_are_not_one_another(self):
        told = alone([Wait()], [5], slots())
        told[1].append(1)
        self.assertEqual(told[2], [])

    def test_one_list_as_boxes_and_slots(self):
        both = [1, 2, 3, 4, 5, 6, 7, 8]
        told = alone(read("let b 9 ; take c a ; put a b"), both, both)
        self.assertEqual(told, (DONE, [(1, 2)], [(1, 9)], [1, 9, 2, 4, 5, 6, 7, 8]))
        self.assertEqual(both, [1, 2, 3, 4, 5, 6, 7, 8])

    def test_a_part_that_stands_in_a_deed_twice(self):
        part = Either([Take("b", "a"), Put("a", "a"), Wait()], [Reckon("plus", "a", "a", "c")])
        self.assertEqual(alone([part, part], [5, 6, 7], slots(c=1)), (DONE, [(0, 5), (1, 6)], [], slots(a=2, c=1)))

    def test_a_deed_deeper_than_let(self):
        deed = [Wait()]
        for times in range(12):
            deed = [Try(deed, "n", "a", [])]
        self.assertEqual(alone([Either(deed, [Let("b", 1)])], [5], slots()), (DONE, [], [], slots(b=1)))


class ByRowsTest(AloneCase):
    """Deeds made at will, done by their rows too."""

    def by_rows(self, deed, boxes, before):
        rows, now, at = rows_of(deed), dict(zip("abcdefgh", before)), 0
        layers, saw, guards = [{}], {}, []
        while True:
            row = rows[at]
            at += 1
            fault = None
            if row[0] == "lay":
                self.assertEqual((len(layers), guards), (1, []))
                return (DONE, sorted(saw.items()), sorted(layers[0].items()), list(now.values()))
            if row[0] == "let":
                now[row[1]] = row[2]
            elif row[0] in WORDS:
                now[row[1]] = reckon(row[0], now[row[2]], now[row[3]])
            elif row[0] == "take":
                box = now[row[2]] % len(boxes)
                owns = [layer[box] for layer in layers if box in layer]
                if not owns:
                    saw[box] = boxes[box]
                now[row[1]] = (owns or [boxes[box]])[-1]
            elif row[0] == "put":
                layers[-1][now[row[1]] % len(boxes)] = now[row[2]]
            elif row[0] == "unless":
                at = row[2] if now[row[1]] == 0 else at
            elif row[0] == "jump":
                at = row[1]
            elif row[0] in ("either", "guard"):
                guards.append((row, dict(now)))
                layers.append({})
            elif row[0] == "settle":
                guards.pop()
                top = layers.pop()
                layers[-1].update(top)
            elif row[0] == "throw":
                fault = ("fell", row[1], now[row[2]])
            else:
                fault = WAITS
            while fault is not None:
                if not guards:
                    return (fault, sorted(saw.items()), [], list(before))
                guard, slots_then = guards.pop()
                layers.pop()
                if guard[0] == "either" and fault == WAITS:
                    now, at, fault = slots_then, guard[1], None
                elif guard[0] == "guard" and fault[0] == "fell" and fault[1] == guard[1]:
                    now, at = slots_then, guard[3]
                    now[guard[2]] = fault[2]
                    fault = None

    def made(self, chance, depth):
        return [self.made_part(chance, depth) for again in range(chance.randrange(5))]

    def made_part(self, chance, depth):
        slot, one, other = (chance.choice("abcd") for again in range(3))
        kind = chance.randrange(16 if depth > 0 else 10)
        if kind < 2:
            return Let(slot, chance.choice((0, 1, 2, 5, WIDE - 1)))
        if kind < 4:
            return Reckon(chance.choice(WORDS), slot, one, other)
        if kind < 6:
            return Take(slot, one)
        if kind < 8:
            return Put(one, slot)
        if kind == 8:
            return Throw(chance.choice("nm"), slot)
        if kind == 9:
            return Wait()
        parts, others = self.made(chance, depth - 1), self.made(chance, depth - 1)
        if kind < 12:
            return If(slot, parts, others)
        if kind < 14:
            return Either(parts, others)
        return Try(parts, chance.choice("nm"), slot, others)

    def test_deeds_made_at_will(self):
        chance = random.Random(13)
        ends = {"done": 0, "waits": 0, "fell": 0}
        for again in range(3000):
            deed = self.made(chance, 4)
            boxes = [chance.randrange(4) for box in range(chance.randrange(1, 5))]
            before = [chance.randrange(3) for slot in range(8)]
            told = alone(deed, boxes, before)
            self.check_kinds(told)
            self.assertEqual(told, self.by_rows(deed, boxes, before), shown(deed))
            ends[told[0][0]] += 1
        self.assertGreater(min(ends.values()), 300, ends)


if __name__ == "__main__":
    unittest.main()
