import copy
import itertools
import unittest

from arrowhall.errors import NoBox
from arrowhall.halls import Hall, turned
from arrowhall.readings import is_reading, out_of
from tests.helper import (THIRTY_FIGURES, all_readings, arrows_out, asked, both_ways, first_stays, halls, maps,
                          no_numbers, reads, refused, small_ones, some_readings, stairs, still, turns, unmoved)


def replaced(numbers, place, number):
    return numbers[:place] + [number] + numbers[place + 1:]


class IsReading(unittest.TestCase):
    def judged(self, hall, counts, lists):
        told = asked(self, is_reading, hall, counts, lists)
        self.assertIs(told, reads(hall, counts, lists))
        return told

    def test_readings(self):
        for name, hall in both_ways().items():
            for number, (counts, lists) in enumerate(some_readings(hall)):
                with self.subTest(name, number=number):
                    self.assertIs(asked(self, is_reading, hall, counts, lists), True)

    def test_written_out(self):
        hall = Hall(*stairs(2))
        self.assertIs(is_reading(hall, [2, 3], [[0, 1], [2, 2], [0, 1, 2]]), True)
        self.assertIs(is_reading(hall, [2, 3], [[0, 1], [0, 1, 2], [2, 2]]), False)
        self.assertIs(is_reading(hall, [2, 3], [[1, 0], [2, 2], [0, 1, 2]]), False)
        self.assertIs(is_reading(hall, [2, 3], [[0, 1], [2, 2], [0, 1, 1]]), False)
        self.assertIs(is_reading(hall, [0, 0], [[], [], []]), True)
        self.assertIs(is_reading(hall, [0, 1], [[], [], [0]]), True)
        self.assertIs(is_reading(hall, [1, 0], [[0], [], []]), False)
        self.assertIs(is_reading(hall, [1, 0], [[0], [0], []]), False)

    def test_things_that_maps_lead(self):
        sizes = [0, 1, 2]
        hall = Hall(*maps(sizes))
        lists = [[], [], [], [0], [0], [1], [0, 0], [0, 0], [0, 1], [1, 0], [1, 1]]
        self.assertIs(is_reading(hall, sizes, lists), True)
        self.assertIs(is_reading(turned(hall), sizes, lists), False)

    def test_the_one_and_then_the_other(self):
        hall = Hall(*first_stays())
        counts, lists = arrows_out(hall, 0)
        self.assertIs(is_reading(hall, counts, lists), True)
        self.assertIs(is_reading(turned(hall), counts, lists), False)
        counts, lists = arrows_out(turned(hall), 0)
        self.assertIs(is_reading(hall, counts, lists), False)
        self.assertIs(is_reading(turned(hall), counts, lists), True)

    def test_nought_to_forty_things(self):
        for count in (0, 1, 39, 40):
            for hall in (Hall(*still(1)), Hall(*stairs(3)), Hall(*turns(1, 40))):
                self.assertIs(is_reading(hall, *unmoved(hall, count)), True)
        for count in (41, 42, 60):
            for hall in (Hall(*still(1)), Hall(*stairs(3)), Hall(*turns(1, 40))):
                self.assertIs(is_reading(hall, *unmoved(hall, count)), False)
        hall = Hall(*still(2))
        self.assertIs(is_reading(hall, [40, 40], [list(range(40)), list(range(40))]), True)
        self.assertIs(is_reading(hall, [40, 41], [list(range(40)), list(range(41))]), False)
        self.assertIs(is_reading(hall, [41, 40], [list(range(41)), list(range(40))]), False)

    def test_counts_below_nought_and_far_beyond(self):
        hall = Hall(*still(1))
        for count in (-1, -40, -THIRTY_FIGURES, 61, THIRTY_FIGURES):
            for lists in ([[]], [[0]], [list(range(41))]):
                self.assertIs(asked(self, is_reading, hall, [count], lists), False)

    def test_one_count_changed(self):
        for name, hall in small_ones().items():
            for counts, lists in some_readings(hall):
                for box, count in itertools.product(range(len(counts)), (-1, 0, 1, 2, 3, 41, THIRTY_FIGURES)):
                    with self.subTest(name, counts=counts, box=box, count=count):
                        self.judged(hall, replaced(counts, box, count), lists)

    def test_one_thing_led_otherwise(self):
        found = []
        for name, hall in small_ones().items():
            for counts, lists in some_readings(hall):
                for arrow, (start, goal) in enumerate(hall.ends):
                    for place, thing in itertools.product(range(counts[start]), range(-2, counts[goal] + 2)):
                        with self.subTest(name, counts=counts, arrow=arrow, place=place, thing=thing):
                            changed = replaced(lists, arrow, replaced(lists[arrow], place, thing))
                            found.append(self.judged(hall, counts, changed))
        self.assertIn(True, found)
        self.assertIn(False, found)

    def test_things_that_are_none(self):
        for name, hall in halls().items():
            counts, lists = unmoved(hall, 3)
            for arrow, number in itertools.product(range(0, len(hall.ends), 5), no_numbers(3)):
                with self.subTest(name, arrow=arrow, number=number):
                    for place in range(3):
                        changed = replaced(lists, arrow, replaced([0, 1, 2], place, number))
                        self.assertIs(is_reading(hall, counts, changed), False)

    def test_a_rest_that_moves_things(self):
        for hall in halls().values():
            counts, lists = unmoved(hall, 2)
            for rest in hall.rests:
                self.assertIs(is_reading(hall, counts, replaced(lists, rest, [1, 0])), False)
        hall = Hall(*still(1))
        self.assertIs(is_reading(hall, [2], [[0, 0]]), False)

    def test_all_arrows_lead_all_things_to_nought(self):
        for hall in halls().values():
            self.assertIs(is_reading(hall, [2] * len(hall.rests), [[0, 0] for _ in hall.ends]), False)

    def test_lists_left_out_and_more(self):
        for name, hall in halls().items():
            with self.subTest(name):
                counts, lists = unmoved(hall, 2)
                for wrong in (counts[:-1], counts + [2], counts + [0], [], [2] * 60):
                    self.assertIs(is_reading(hall, wrong, lists), False)
                for wrong in (lists[:-1], lists[1:], lists + [[0, 1]], lists + [[]], [], [[0, 1]] * 60):
                    self.assertIs(is_reading(hall, counts, wrong), False)
                self.assertIs(is_reading(hall, [], []), False)

    def test_a_list_too_short_or_too_long(self):
        for name, hall in halls().items():
            counts, lists = unmoved(hall, 2)
            for arrow in range(len(hall.ends)):
                with self.subTest(name, arrow=arrow):
                    for wrong in ([], [0], [0, 1, 0], [0, 1, 1], [0] * 60):
                        self.assertIs(is_reading(hall, counts, replaced(lists, arrow, wrong)), False)

    def test_all_that_can_be_tried(self):
        for hall, most in ((Hall(*turns(1, 2)), 3), (Hall(*stairs(2)), 2), (Hall(*first_stays()), 2)):
            found = []
            for counts in itertools.product(range(most + 1), repeat=len(hall.rests)):
                choices = [itertools.product(range(counts[goal]), repeat=counts[start]) for start, goal in hall.ends]
                for way in itertools.product(*choices):
                    told = list(counts), [list(things) for things in way]
                    if is_reading(hall, *told):
                        found.append(told)
            self.assertEqual(found, all_readings(hall, most))
        # A wheel of two can turn 0, 1, 2 and 3 things in 1, 1, 2 and 4 ways.
        self.assertEqual(len(all_readings(Hall(*turns(1, 2)), 3)), 8)

    def test_lists_that_are_one_may_be_handed_in(self):
        hall = Hall(*stairs(3))
        things = [0, 1]
        self.assertIs(is_reading(hall, [2, 2, 2], [things] * 6), True)
        self.assertEqual(things, [0, 1])


class OutOf(unittest.TestCase):
    def test_point_twelve(self):
        for name, hall in both_ways().items():
            for box in range(len(hall.rests)):
                with self.subTest(name, box=box):
                    told = asked(self, out_of, hall, box)
                    self.assertEqual(told, arrows_out(hall, box))
                    self.assertTrue(reads(hall, *told))

    def test_written_out(self):
        hall = Hall(*stairs(2))
        self.assertEqual(out_of(hall, 0), ([1, 1], [[0], [0], [0]]))
        self.assertEqual(out_of(hall, 1), ([0, 1], [[], [], [0]]))
        self.assertEqual(out_of(turned(hall), 1), ([1, 1], [[0], [0], [0]]))
        hall = Hall(*turns(1, 3))
        self.assertEqual(out_of(hall, 0), ([3], [[0, 1, 2], [1, 2, 0], [2, 0, 1]]))
        hall = Hall(*first_stays())
        self.assertEqual(out_of(hall, 0), ([3], [[0, 1, 2], [1, 1, 2], [2, 1, 2]]))
        self.assertEqual(out_of(turned(hall), 0), ([3], [[0, 1, 2], [1, 1, 1], [2, 2, 2]]))

    def test_things_are_numbered_from_nought_at_each_box(self):
        hall = Hall(*turns(2, 2))
        self.assertEqual(out_of(hall, 1), ([2, 2], [[0, 1], [1, 0], [0, 1], [1, 0], [0, 1], [1, 0], [0, 1], [1, 0]]))

    def test_kinds(self):
        told = out_of(Hall(*stairs(2)), 0)
        self.assertIs(type(told), tuple)
        self.assertEqual([type(part) for part in told], [list, list])
        self.assertEqual([type(things) for things in told[1]], [list] * 3)

    def test_forty_things(self):
        hall = Hall(*turns(1, 40))
        counts, lists = asked(self, out_of, hall, 0)
        self.assertEqual(counts, [40])
        self.assertEqual(lists, [[(thing + arrow) % 40 for thing in range(40)] for arrow in range(40)])
        self.assertIs(is_reading(hall, counts, lists), True)

    def test_a_hall_made_of_lists_that_change_later(self):
        ends, rests, table = stairs(3)
        hall = Hall(ends, rests, table)
        right = copy.deepcopy(out_of(hall, 1))
        ends.clear()
        rests[0] = 3
        table[0][0] = 5
        self.assertEqual(out_of(hall, 1), right)

    def test_no_box(self):
        for hall in both_ways().values():
            for number in no_numbers(len(hall.rests)):
                refused(self, NoBox, out_of, hall, number)


if __name__ == "__main__":
    unittest.main()
