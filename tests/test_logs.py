"""Logs: points 2 and 10."""

import itertools
import unittest

from retryhall.logs import Log
from retryhall.words import WIDE


class LogsCase(unittest.TestCase):
    def check_wrote(self, log, wrote):
        told = log.wrote()
        self.assertEqual(told, wrote)
        self.assertIs(type(told), list)
        for row in told:
            self.assertIs(type(row), tuple)

    def check_saw(self, log, saw):
        told = log.saw()
        self.assertEqual(told, saw)
        self.assertIs(type(told), list)
        for row in told:
            self.assertIs(type(row), tuple)


class NewTest(LogsCase):
    def test_a_new_log(self):
        log = Log()
        self.assertEqual(log.layers(), 1)
        self.assertIs(type(log.layers()), int)
        self.check_saw(log, [])
        self.check_wrote(log, [])
        for box in range(16):
            self.assertIsNone(log.own(box))

    def test_two_logs_share_nothing(self):
        one, other = Log(), Log()
        one.write(0, 1)
        one.see(1, 2)
        one.begin()
        self.check_wrote(other, [])
        self.check_saw(other, [])
        self.assertEqual(other.layers(), 1)
        self.assertIsNone(other.own(0))


class OneLayerTest(LogsCase):
    def test_writing_at_one_box(self):
        log = Log()
        log.write(3, 7)
        self.assertEqual(log.own(3), 7)
        self.assertIsNone(log.own(2))
        self.check_wrote(log, [(3, 7)])

    def test_writing_at_the_same_box_again(self):
        log = Log()
        log.write(3, 7)
        log.write(3, 5)
        self.assertEqual(log.own(3), 5)
        self.check_wrote(log, [(3, 5)])

    def test_writing_at_others(self):
        log = Log()
        for box, number in ((9, 1), (2, 5), (15, 0), (10, WIDE - 1), (0, 3)):
            log.write(box, number)
        self.check_wrote(log, [(0, 3), (2, 5), (9, 1), (10, WIDE - 1), (15, 0)])
        self.assertEqual(log.own(10), WIDE - 1)
        self.assertEqual(log.own(9), 1)
        self.assertIsNone(log.own(1))

    def test_the_number_nought(self):
        log = Log()
        log.write(0, 0)
        self.assertEqual(log.own(0), 0)
        self.assertIsNotNone(log.own(0))
        self.check_wrote(log, [(0, 0)])
        log.write(0, 4)
        log.write(0, 0)
        self.assertEqual(log.own(0), 0)

    def test_writing_is_not_seeing(self):
        log = Log()
        log.write(0, 1)
        self.check_saw(log, [])
        log.see(1, 2)
        self.assertIsNone(log.own(1))
        self.check_wrote(log, [(0, 1)])


class LayersTest(LogsCase):
    def test_layers_are_counted(self):
        log = Log()
        for count in (2, 3, 4):
            log.begin()
            self.assertEqual(log.layers(), count)
        log.settle()
        self.assertEqual(log.layers(), 3)
        log.drop()
        self.assertEqual(log.layers(), 2)
        log.settle()
        self.assertEqual(log.layers(), 1)

    def test_writing_goes_to_the_top_layer(self):
        log = Log()
        log.write(0, 1)
        log.begin()
        log.write(0, 2)
        log.write(1, 3)
        self.assertEqual(log.own(0), 2)
        self.assertEqual(log.own(1), 3)
        self.check_wrote(log, [(0, 1)])

    def test_own_is_found_in_lower_layers(self):
        log = Log()
        log.write(0, 1)
        log.begin()
        log.write(1, 2)
        log.begin()
        self.assertEqual(log.own(0), 1)
        self.assertEqual(log.own(1), 2)
        self.assertIsNone(log.own(2))

    def test_own_is_the_highest(self):
        log = Log()
        for number in (1, 2, 0):
            log.write(5, number)
            self.assertEqual(log.own(5), number)
            log.begin()
            self.assertEqual(log.own(5), number)

    def test_settling_writes_beneath(self):
        log = Log()
        log.write(0, 1)
        log.write(2, 9)
        log.begin()
        log.write(0, 2)
        log.write(1, 3)
        log.settle()
        self.check_wrote(log, [(0, 2), (1, 3), (2, 9)])
        self.assertEqual(log.own(0), 2)
        self.assertEqual(log.own(2), 9)

    def test_settling_the_number_nought(self):
        log = Log()
        log.write(0, 1)
        log.begin()
        log.write(0, 0)
        self.assertEqual(log.own(0), 0)
        log.settle()
        self.check_wrote(log, [(0, 0)])

    def test_settling_what_has_nothing(self):
        log = Log()
        log.write(0, 1)
        log.begin()
        log.settle()
        self.check_wrote(log, [(0, 1)])

    def test_dropping_leaves_what_is_beneath(self):
        log = Log()
        log.write(0, 1)
        log.begin()
        log.write(0, 2)
        log.write(1, 3)
        log.drop()
        self.check_wrote(log, [(0, 1)])
        self.assertEqual(log.own(0), 1)
        self.assertIsNone(log.own(1))

    def test_settling_into_a_layer_that_is_dropped(self):
        log = Log()
        log.write(0, 1)
        log.begin()
        log.begin()
        log.write(0, 2)
        log.settle()
        self.assertEqual(log.own(0), 2)
        self.check_wrote(log, [(0, 1)])
        log.drop()
        self.assertEqual(log.own(0), 1)
        self.check_wrote(log, [(0, 1)])

    def test_dropping_then_settling(self):
        log = Log()
        log.begin()
        log.write(0, 1)
        log.begin()
        log.write(0, 2)
        log.write(3, 4)
        log.drop()
        log.write(2, 5)
        log.settle()
        self.check_wrote(log, [(0, 1), (2, 5)])

    def test_a_layer_begun_anew_has_nothing(self):
        log = Log()
        log.begin()
        log.write(0, 1)
        log.drop()
        log.begin()
        self.assertIsNone(log.own(0))
        log.settle()
        self.check_wrote(log, [])
        log.begin()
        log.write(0, 1)
        log.settle()
        log.begin()
        log.drop()
        self.check_wrote(log, [(0, 1)])

    def test_settled_layers_are_not_written_on(self):
        log = Log()
        log.begin()
        log.write(0, 1)
        log.settle()
        log.begin()
        log.write(0, 2)
        log.drop()
        self.assertEqual(log.own(0), 1)

    def test_all_short_stories(self):
        # Each story is also told by layers as plain lists of writings, the newest last.
        deeds = ("write 0", "write 1", "begin", "settle", "drop")
        for story in itertools.product(deeds, repeat=6):
            log, layers = Log(), [[]]
            for number, deed in enumerate(story):
                if deed in ("settle", "drop") and len(layers) == 1:
                    break
                if deed == "begin":
                    log.begin()
                    layers.append([])
                elif deed == "settle":
                    log.settle()
                    top = layers.pop()
                    layers[-1].extend(top)
                elif deed == "drop":
                    log.drop()
                    layers.pop()
                else:
                    box = int(deed[-1])
                    log.write(box, number)
                    layers[-1].append((box, number))
                self.assertEqual(log.layers(), len(layers))
                self.assertEqual(log.wrote(), sorted(dict(layers[0]).items()))
                newest = dict(sum(layers, []))
                self.assertEqual([log.own(0), log.own(1)], [newest.get(0), newest.get(1)])


class SeeingTest(LogsCase):
    def test_seeing_boxes(self):
        log = Log()
        for box, number in ((10, 4), (9, 0), (0, WIDE - 1)):
            log.see(box, number)
        self.check_saw(log, [(0, WIDE - 1), (9, 0), (10, 4)])

    def test_seeing_a_box_again(self):
        log = Log()
        log.see(1, 5)
        log.see(0, 6)
        log.see(1, 7)
        self.check_saw(log, [(0, 6), (1, 7)])
        log.see(1, 0)
        self.check_saw(log, [(0, 6), (1, 0)])

    def test_dropping_leaves_what_was_seen(self):
        log = Log()
        log.see(0, 1)
        log.begin()
        log.see(1, 2)
        log.see(0, 3)
        log.begin()
        log.see(2, 4)
        log.drop()
        log.drop()
        self.check_saw(log, [(0, 3), (1, 2), (2, 4)])
        self.check_wrote(log, [])

    def test_settling_leaves_what_was_seen(self):
        log = Log()
        log.begin()
        log.see(1, 2)
        log.settle()
        self.check_saw(log, [(1, 2)])
        self.check_wrote(log, [])

    def test_writing_leaves_what_was_seen(self):
        log = Log()
        log.see(1, 2)
        log.write(1, 9)
        self.check_saw(log, [(1, 2)])
        self.assertEqual(log.own(1), 9)


class OwnListsTest(LogsCase):
    def test_lists_told_stay(self):
        log = Log()
        log.see(0, 1)
        log.write(0, 2)
        saw, wrote = log.saw(), log.wrote()
        log.see(0, 3)
        log.see(1, 4)
        log.write(0, 5)
        log.write(1, 6)
        log.begin()
        log.write(2, 7)
        log.settle()
        self.assertEqual(saw, [(0, 1)])
        self.assertEqual(wrote, [(0, 2)])
        self.check_saw(log, [(0, 3), (1, 4)])
        self.check_wrote(log, [(0, 5), (1, 6), (2, 7)])

    def test_what_the_asker_does_to_them_changes_nothing(self):
        log = Log()
        log.see(0, 1)
        log.write(0, 2)
        log.saw().append((5, 5))
        log.wrote().append((6, 6))
        log.saw().clear()
        log.wrote().clear()
        self.check_saw(log, [(0, 1)])
        self.check_wrote(log, [(0, 2)])

    def test_asking_changes_nothing(self):
        log = Log()
        log.write(0, 2)
        log.begin()
        log.write(0, 3)
        for again in range(3):
            self.assertEqual(log.layers(), 2)
            self.assertEqual(log.own(0), 3)
            self.assertIsNone(log.own(1))
            self.check_wrote(log, [(0, 2)])
            self.check_saw(log, [])


if __name__ == "__main__":
    unittest.main()
