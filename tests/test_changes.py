import itertools
import unittest

from arrowhall.errors import NoReading
from arrowhall.halls import Hall, turned
from arrowhall.readings import changes
from tests.helper import (THIRTY_FIGURES, all_changes, all_readings, arrows_out, asked, beside, both_ways, first_stays,
                          halls, is_change, maps, refused, side_by_side, small_ones, some_readings, stairs, still,
                          turns, unmoved, ways, wrong_readings)


class Changes(unittest.TestCase):
    def judged(self, hall, one, other):
        told = asked(self, changes, hall, one, other)
        self.assertEqual(told, all_changes(hall, one, other))
        return told

    def test_point_thirteen(self):
        for name, hall in both_ways().items():
            told = some_readings(hall)
            for one, other in itertools.product(range(len(told)), repeat=2):
                if ways(told[one], told[other]) <= 600:
                    with self.subTest(name, one=one, other=other):
                        self.judged(hall, told[one], told[other])

    def test_between_all_small_readings(self):
        for told in (still(2), stairs(2), turns(1, 2), turns(1, 3), first_stays()):
            for hall in (Hall(*told), turned(Hall(*told))):
                found = all_readings(hall, 2)
                for one, other in itertools.product(found, repeat=2):
                    with self.subTest(ends=hall.ends, one=one, other=other):
                        self.judged(hall, one, other)

    def test_three_things_that_turn(self):
        hall = Hall(*turns(1, 2))
        found = all_readings(hall, 3)
        for one, other in itertools.product(found, repeat=2):
            self.judged(hall, one, other)

    def test_written_out(self):
        hall = Hall(*stairs(2))
        one = ([2, 1], [[0, 1], [0, 0], [0]])
        other = ([2, 2], [[0, 1], [0, 1], [0, 1]])
        self.assertEqual(changes(hall, one, other), [[[0, 0], [0]], [[1, 1], [1]]])
        self.assertEqual(changes(hall, other, one), [[[0, 0], [0, 0]], [[0, 1], [0, 0]], [[1, 0], [0, 0]],
                                                     [[1, 1], [0, 0]]])

    def test_the_order_where_a_later_box_tells_most(self):
        hall = Hall(*stairs(2))
        one = ([1, 2], [[0], [1], [0, 1]])
        other = ([2, 2], [[0, 1], [1, 0], [0, 1]])
        self.assertEqual(changes(hall, one, other), [[[0], [0, 1]], [[0], [1, 1]], [[1], [0, 0]], [[1], [1, 0]]])
        told = changes(turned(hall), ([2, 2], [[0, 1], [1, 1], [0, 1]]), ([3, 2], [[0, 1, 2], [2, 0], [0, 1]]))
        self.assertEqual(told, sorted(told))
        self.assertEqual(len(told), 6)

    def test_kinds(self):
        told = changes(Hall(*stairs(2)), unmoved(Hall(*stairs(2)), 1), unmoved(Hall(*stairs(2)), 2))
        self.assertEqual(told, [[[0], [0]], [[1], [1]]])
        for part in [told] + told + told[0]:
            self.assertIs(type(part), list)

    def test_no_things(self):
        for name, hall in both_ways().items():
            boxes = len(hall.rests)
            with self.subTest(name):
                for count in (0, 1, 3):
                    self.assertEqual(asked(self, changes, hall, unmoved(hall, 0), unmoved(hall, count)),
                                     [[[] for _ in range(boxes)]])
                self.assertEqual(asked(self, changes, hall, unmoved(hall, 2), unmoved(hall, 0)), [])

    def test_one_thing_at_the_goal(self):
        for hall in both_ways().values():
            for one in some_readings(hall):
                self.assertEqual(changes(hall, one, unmoved(hall, 1)), [[[0] * count for count in one[0]]])

    def test_to_itself_it_may_stay(self):
        for hall in small_ones().values():
            for one in some_readings(hall):
                if max(one[0]) <= 3:
                    self.assertIn([list(range(count)) for count in one[0]], changes(hall, one, one))

    def test_as_many_as_the_things_at_the_box(self):
        for name, hall in both_ways().items():
            told = some_readings(hall)
            for box, other in itertools.product(range(len(hall.rests)), told):
                with self.subTest(name, box=box, counts=other[0]):
                    found = changes(hall, arrows_out(hall, box), other)
                    self.assertEqual(len(found), other[0][box])
                    for change in found:
                        self.assertTrue(is_change(hall, arrows_out(hall, box), other, change))

    def test_nearly_two_thousand_ways(self):
        hall = Hall(*still(3))
        one = ([3, 3, 2], [[0, 1, 2], [0, 1, 2], [0, 1]])
        other = ([2, 3, 3], [[0, 1], [0, 1, 2], [0, 1, 2]])
        self.assertEqual(ways(one, other), 1944)
        self.assertEqual(len(self.judged(hall, one, other)), 1944)
        hall = Hall(*beside(turns(1, 2), stairs(2)))
        one = side_by_side(hall, arrows_out(hall, 1), unmoved(hall, 2))
        other = side_by_side(hall, arrows_out(hall, 0), unmoved(hall, 1))
        self.judged(hall, one, other)

    def test_somewhat_beyond(self):
        hall = Hall(*still(2))
        self.assertEqual(len(changes(hall, unmoved(hall, 3), unmoved(hall, 4))), 4096)
        hall = Hall(*turns(1, 2))
        one = ([4], [[0, 1, 2, 3], [1, 0, 3, 2]])
        self.assertEqual(len(self.judged(hall, one, one)), 16)
        hall = Hall(*stairs(2))
        self.assertEqual(len(changes(hall, unmoved(hall, 5), unmoved(hall, 4))), 1024)
        self.assertEqual(len(changes(hall, unmoved(hall, 40), unmoved(hall, 1))), 1)

    def test_a_late_box_without_room(self):
        hall = Hall(*still(6))
        one = unmoved(hall, 3)
        other = ([3, 3, 3, 3, 3, 0], [[0, 1, 2] for _ in range(5)] + [[]])
        self.assertEqual(ways(one, other), 0)
        self.assertEqual(asked(self, changes, hall, one, other), [])
        self.assertEqual(len(changes(hall, other, ([1, 1, 1, 1, 3, 0], [[0]] * 4 + [[0, 1, 2], []]))), 27)

    def test_no_two_lists_of_all_changes_are_one(self):
        hall = Hall(*still(2))
        told = changes(hall, unmoved(hall, 2), unmoved(hall, 2))
        told[0][0][0] = 9
        told[0][1].append(9)
        self.assertEqual(told[1:], changes(hall, unmoved(hall, 2), unmoved(hall, 2))[1:])

    def test_lists_that_are_one_may_be_handed_in(self):
        hall = Hall(*maps([1, 2]))
        things = [0, 1]
        one = ([2, 2], [things] * len(hall.ends))
        self.assertEqual(asked(self, changes, hall, one, one), all_changes(hall, one, one))


class NoReadings(unittest.TestCase):
    def test_in_either_place(self):
        for name, hall in both_ways().items():
            right = unmoved(hall, 1)
            for number, wrong in enumerate(wrong_readings(hall)):
                with self.subTest(name, number=number):
                    refused(self, NoReading, changes, hall, wrong, right)
                    refused(self, NoReading, changes, hall, right, wrong)
                    refused(self, NoReading, changes, hall, wrong, wrong)

    def test_a_reading_of_another_hall(self):
        hall = Hall(*first_stays())
        one, other = arrows_out(hall, 0), arrows_out(turned(hall), 0)
        refused(self, NoReading, changes, hall, one, other)
        refused(self, NoReading, changes, hall, other, one)
        refused(self, NoReading, changes, turned(hall), one, other)

    def test_even_where_there_is_no_change(self):
        hall = Hall(*still(2))
        wrong = ([1, 1], [[0], [THIRTY_FIGURES]])
        refused(self, NoReading, changes, hall, unmoved(hall, 0), wrong)
        refused(self, NoReading, changes, hall, wrong, unmoved(hall, 0))

    def test_no_pair(self):
        for hall in halls().values():
            right = unmoved(hall, 1)
            for wrong in ((), right[:1], right + ([],)):
                refused(self, NoReading, changes, hall, wrong, right)
                refused(self, NoReading, changes, hall, right, wrong)


if __name__ == "__main__":
    unittest.main()
