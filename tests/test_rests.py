import copy
import itertools
import unittest

from arrowhall.errors import NoBox, NoReading, NoThing
from arrowhall.halls import Hall, turned
from arrowhall.readings import changes, out_of
from arrowhall.rests import change_of, thing_of
from tests.helper import (THIRTY_FIGURES, all_changes, all_readings, arrows_from, arrows_out, asked, both_ways,
                          first_stays, halls, is_change, mixed, no_numbers, refused, side_by_side, small_ones,
                          some_readings, stairs, still, turns, unmoved, ways, wrong_readings)


def place_of_rest(hall, box):
    """The number of the rest among the things of the reading out of its box."""
    return arrows_from(hall, box, box).index(hall.rests[box])


def things_asked(hall):
    """Boxes, readings and things of theirs at the box."""
    return [(box, reading, thing) for box in range(len(hall.rests)) for reading in some_readings(hall)
            for thing in range(reading[0][box])]


class ChangeOf(unittest.TestCase):
    def test_point_fourteen(self):
        for name, hall in both_ways().items():
            asks = things_asked(hall)
            for box, reading, thing in asks[::max(1, len(asks) // 40)]:
                with self.subTest(name, box=box, counts=reading[0], thing=thing):
                    told = asked(self, change_of, hall, box, reading, thing)
                    self.assertTrue(is_change(hall, arrows_out(hall, box), reading, told))
                    self.assertEqual(told[box][place_of_rest(hall, box)], thing)

    def test_each_thing_tells_one_and_there_are_no_more(self):
        for name, hall in both_ways().items():
            for box, reading in itertools.product(range(len(hall.rests)), some_readings(hall)):
                out = arrows_out(hall, box)
                if ways(out, reading) <= 1000:
                    with self.subTest(name, box=box, counts=reading[0]):
                        told = [change_of(hall, box, reading, thing) for thing in range(reading[0][box])]
                        self.assertEqual(sorted(told), all_changes(hall, out, reading))
                        self.assertEqual(sorted(told), changes(hall, out_of(hall, box), reading))

    def test_all_small_readings(self):
        for told in (stairs(2), turns(1, 3), first_stays(), mixed(first_stays(), 2)):
            for hall in (Hall(*told), turned(Hall(*told))):
                for box, reading in itertools.product(range(len(hall.rests)), all_readings(hall, 2)):
                    found = [change_of(hall, box, reading, thing) for thing in range(reading[0][box])]
                    self.assertEqual(sorted(found), all_changes(hall, arrows_out(hall, box), reading))
                    self.assertEqual([thing_of(hall, box, reading, change) for change in found],
                                     list(range(reading[0][box])))

    def test_written_out(self):
        hall = Hall(*stairs(2))
        reading = ([2, 3], [[0, 1], [2, 0], [0, 1, 2]])
        self.assertEqual(change_of(hall, 0, reading, 0), [[0], [2]])
        self.assertEqual(change_of(hall, 0, reading, 1), [[1], [0]])
        self.assertEqual(change_of(hall, 1, reading, 1), [[], [1]])
        hall = Hall(*turns(1, 3))
        self.assertEqual(change_of(hall, 0, arrows_out(hall, 0), 2), [[2, 0, 1]])

    def test_forty_things(self):
        hall = Hall(*turns(1, 40))
        reading = arrows_out(hall, 0)
        for thing in (0, 1, 39):
            change = [[(thing + arrow) % 40 for arrow in range(40)]]
            self.assertEqual(change_of(hall, 0, reading, thing), change)
            self.assertEqual(thing_of(hall, 0, reading, change), thing)

    def test_no_thing(self):
        for name, hall in both_ways().items():
            for box, reading in itertools.product(range(len(hall.rests)), some_readings(hall)):
                if max(reading[0]) < 20:
                    for number in no_numbers(reading[0][box]):
                        with self.subTest(name, box=box, counts=reading[0], number=number):
                            refused(self, NoThing, change_of, hall, box, reading, number)

    def test_the_things_of_another_box_are_none(self):
        hall = Hall(*stairs(2))
        reading = ([1, 3], [[0], [2], [0, 1, 2]])
        self.assertEqual(change_of(hall, 1, reading, 2), [[], [2]])
        refused(self, NoThing, change_of, hall, 0, reading, 2)
        refused(self, NoThing, change_of, hall, 0, reading, 1)


class ThingOf(unittest.TestCase):
    def test_back_to_the_thing(self):
        for name, hall in both_ways().items():
            asks = things_asked(hall)
            for box, reading, thing in asks[::max(1, len(asks) // 40)]:
                with self.subTest(name, box=box, counts=reading[0], thing=thing):
                    change = change_of(hall, box, reading, thing)
                    self.assertEqual(asked(self, thing_of, hall, box, reading, change), thing)

    def test_the_rest_need_not_be_the_least(self):
        hall = Hall(*mixed(turns(1, 3), 2))
        self.assertEqual(hall.rests, [1])
        for change in all_changes(hall, arrows_out(hall, 0), arrows_out(hall, 0)):
            self.assertEqual(thing_of(hall, 0, arrows_out(hall, 0), change), change[0][1])

    def test_the_rest_is_numbered_at_its_box(self):
        hall = Hall(*stairs(3))
        self.assertEqual(hall.rests, [0, 3, 5])
        reading = unmoved(hall, 3)
        self.assertEqual(thing_of(hall, 2, reading, [[], [], [1]]), 1)
        self.assertEqual(thing_of(hall, 1, reading, [[], [2], [2]]), 2)

    def test_one_thing_changed_otherwise(self):
        found = []
        for name, hall in small_ones().items():
            for box, reading, thing in things_asked(hall):
                out = arrows_out(hall, box)
                right = change_of(hall, box, reading, thing)
                for other, things in enumerate(right):
                    for place, goal in itertools.product(range(len(things)), range(-2, reading[0][other] + 2)):
                        change = copy.deepcopy(right)
                        change[other][place] = goal
                        with self.subTest(name, box=box, counts=reading[0], change=change):
                            found.append(self.judged(hall, box, out, reading, change))
        self.assertIn(True, found)
        self.assertIn(False, found)

    def judged(self, hall, box, out, reading, change):
        good = is_change(hall, out, reading, change)
        if good:
            self.assertEqual(thing_of(hall, box, reading, change), change[box][place_of_rest(hall, box)])
        else:
            refused(self, NoThing, thing_of, hall, box, reading, change)
        return good

    def test_lists_left_out_and_more(self):
        for name, hall in halls().items():
            for box in range(len(hall.rests)):
                reading = unmoved(hall, 2)
                right = change_of(hall, box, reading, 1)
                with self.subTest(name, box=box):
                    for wrong in ([], right[:-1], right[1:], right + [[]], right + [[0]], [[]] * 60):
                        if wrong != right:
                            refused(self, NoThing, thing_of, hall, box, reading, wrong)
                    for other in range(len(right)):
                        for things in (right[other] + [1], right[other] + [0], right[other][:-1], [1] * 60):
                            if things != right[other]:
                                wrong = right[:other] + [things] + right[other + 1:]
                                refused(self, NoThing, thing_of, hall, box, reading, wrong)

    def test_numbers_that_are_no_thing(self):
        for hall in (Hall(*still(2)), Hall(*stairs(3)), Hall(*turns(2, 2))):
            reading = unmoved(hall, 2)
            for box, number in itertools.product(range(len(hall.rests)), no_numbers(2)):
                change = change_of(hall, box, reading, 0)
                refused(self, NoThing, thing_of, hall, box, reading, [[number] * len(things) for things in change])

    def test_thirty_figures(self):
        hall = Hall(*still(1))
        refused(self, NoThing, thing_of, hall, 0, ([1], [[0]]), [[THIRTY_FIGURES]])
        refused(self, NoThing, thing_of, hall, 0, ([1], [[0]]), [[-THIRTY_FIGURES]])

    def test_a_change_to_another_reading(self):
        hall = Hall(*turns(1, 3))
        self.assertEqual(thing_of(hall, 0, unmoved(hall, 3), [[1, 1, 1]]), 1)
        refused(self, NoThing, thing_of, hall, 0, arrows_out(hall, 0), [[1, 1, 1]])
        refused(self, NoThing, thing_of, hall, 0, unmoved(hall, 3), [[1, 2, 0]])
        self.assertEqual(thing_of(hall, 0, arrows_out(hall, 0), [[1, 2, 0]]), 1)

    def test_a_change_out_of_another_box(self):
        hall = Hall(*stairs(3))
        reading = unmoved(hall, 2)
        change = change_of(hall, 1, reading, 1)
        refused(self, NoThing, thing_of, hall, 0, reading, change)
        refused(self, NoThing, thing_of, hall, 2, reading, change)

    def test_no_change_where_the_reading_has_no_things(self):
        for hall in halls().values():
            for box in range(len(hall.rests)):
                nothing = [[] for _ in hall.rests]
                refused(self, NoThing, thing_of, hall, box, unmoved(hall, 0), nothing)


class TheOrderOfRefusals(unittest.TestCase):
    def asks(self, hall):
        """Both calls, with what they are handed last: right ones, and wrong ones."""
        change = change_of(hall, 0, unmoved(hall, 1), 0)
        return [(change_of, 0), (change_of, 7), (change_of, -1), (thing_of, change), (thing_of, []), (thing_of, [[9]])]

    def test_no_reading(self):
        for name, hall in both_ways().items():
            for number, wrong in enumerate(wrong_readings(hall)):
                with self.subTest(name, number=number):
                    for call, last in self.asks(hall):
                        refused(self, NoReading, call, hall, 0, wrong, last)

    def test_no_pair(self):
        hall = Hall(*stairs(2))
        right = unmoved(hall, 1)
        for wrong in ((), right[:1], right + ([],)):
            for call, last in self.asks(hall):
                refused(self, NoReading, call, hall, 0, wrong, last)

    def test_no_box(self):
        for hall in both_ways().values():
            for number in no_numbers(len(hall.rests)):
                for call, last in self.asks(hall):
                    refused(self, NoBox, call, hall, number, unmoved(hall, 1), last)

    def test_no_box_ahead_of_no_reading(self):
        for hall in both_ways().values():
            for number, wrong in itertools.product((-1, len(hall.rests)), wrong_readings(hall)[::3]):
                for call, last in self.asks(hall):
                    refused(self, NoBox, call, hall, number, wrong, last)

    def test_a_reading_of_the_hall_turned_round(self):
        hall = Hall(*first_stays())
        wrong = side_by_side(hall, arrows_out(turned(hall), 0), unmoved(hall, 1))
        refused(self, NoReading, change_of, hall, 0, wrong, 0)
        self.assertEqual(change_of(turned(hall), 0, wrong, 3), [[3, 3, 3]])


if __name__ == "__main__":
    unittest.main()
