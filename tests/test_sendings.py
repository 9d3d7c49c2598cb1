import itertools
import unittest

from arrowhall.errors import NoReading, NoSending
from arrowhall.halls import Hall, turned
from arrowhall.readings import changes, is_reading
from arrowhall.sendings import is_sending, read_through
from tests.helper import (THIRTY_FIGURES, all_changes, arrows_out, asked, both_ways, first_stays, halls, is_change,
                          maps, no_numbers, reads, refused, some_readings, stairs, still, turns, unmoved, ways,
                          wrong_readings)


def sends(hall, other, boxes, arrows):
    """Point 15 asked in full."""
    if len(boxes) != len(hall.rests) or any(not 0 <= box < len(other.rests) for box in boxes):
        return False
    if len(arrows) != len(hall.ends) or any(not 0 <= arrow < len(other.ends) for arrow in arrows):
        return False
    for arrow, (start, goal) in enumerate(hall.ends):
        if other.ends[arrows[arrow]] != (boxes[start], boxes[goal]):
            return False
    if any(arrows[rest] not in other.rests for rest in hall.rests):
        return False
    for one, two in itertools.product(range(len(hall.ends)), repeat=2):
        if hall.ends[one][1] == hall.ends[two][0]:
            if arrows[hall.table[one][two]] != other.table[arrows[one]][arrows[two]]:
                return False
    return True


def onto_itself(hall):
    return hall, hall, list(range(len(hall.rests))), list(range(len(hall.ends)))


def all_to_a_box(hall, other, box):
    return hall, other, [box] * len(hall.rests), [other.rests[box]] * len(hall.ends)


def stairs_up(steps, count, goals):
    """Stairs sent into stairs, step by step no lower."""
    hall, other = Hall(*stairs(count)), Hall(*stairs(goals))
    return hall, other, list(steps), [other.ends.index((steps[low], steps[high])) for low, high in hall.ends]


def some_sendings():
    """Sendings, as what is_sending is handed."""
    told = {f"onto itself: {name}": onto_itself(hall) for name, hall in both_ways().items()}
    goal = Hall(*turns(3, 2))
    for name, hall in both_ways().items():
        told[f"all to a box: {name}"] = all_to_a_box(hall, goal, 1)
    for name, hall in halls().items():
        told[f"a box: {name}"] = all_to_a_box(Hall(*still(1)), hall, len(hall.rests) - 1)
    for steps in ((0, 0, 0), (0, 1, 3), (1, 1, 2), (2, 3, 3)):
        told[f"stairs: {steps}"] = stairs_up(steps, 3, 4)
    told["four turns, then two"] = (Hall(*turns(1, 4)), Hall(*turns(1, 2)), [0], [0, 1, 0, 1])
    told["two turns among four"] = (Hall(*turns(1, 2)), Hall(*turns(1, 4)), [0], [0, 2])
    told["two boxes into one"] = (Hall(*turns(2, 2)), Hall(*turns(1, 2)), [0, 0], [0, 1] * 4)
    told["two boxes into one, by a twist"] = (Hall(*turns(2, 2)), Hall(*turns(1, 2)), [0, 0], [0, 1, 1, 0, 1, 0, 0, 1])
    told["boxes changed about"] = (Hall(*turns(2, 1)), Hall(*turns(2, 1)), [1, 0], [3, 2, 1, 0])
    return told


def small_pairs():
    """Halls so small that all lists can be tried as sendings of the one into the other."""
    told = [Hall(*still(1)), Hall(*still(2)), Hall(*stairs(2)), Hall(*turns(1, 2)), Hall(*turns(1, 3)),
            Hall(*first_stays()), turned(Hall(*stairs(2))), turned(Hall(*first_stays()))]
    return itertools.product(told, repeat=2)


def tries(hall, other):
    boxes = itertools.product(range(len(other.rests)), repeat=len(hall.rests))
    arrows = itertools.product(range(len(other.ends)), repeat=len(hall.ends))
    return [(list(some), list(more)) for some, more in itertools.product(boxes, list(arrows))]


class IsSending(unittest.TestCase):
    def test_sendings(self):
        for name, told in some_sendings().items():
            with self.subTest(name):
                self.assertTrue(sends(*told))
                self.assertIs(asked(self, is_sending, *told), True)

    def test_turned_round_on_either_side(self):
        for name, (hall, other, boxes, arrows) in some_sendings().items():
            with self.subTest(name):
                self.assertIs(is_sending(turned(hall), turned(other), boxes, arrows), True)
                self.assertIs(is_sending(turned(hall), other, boxes, arrows),
                              sends(turned(hall), other, boxes, arrows))
        hall = Hall(*first_stays())
        self.assertIs(is_sending(turned(hall), hall, [0], [0, 1, 2]), False)
        hall = Hall(*stairs(2))
        self.assertIs(is_sending(hall, turned(hall), [1, 0], [2, 1, 0]), True)
        self.assertIs(is_sending(hall, turned(hall), [0, 1], [0, 1, 2]), False)

    def test_all_that_can_be_tried(self):
        counts = []
        for hall, other in small_pairs():
            found = 0
            for boxes, arrows in tries(hall, other):
                told = is_sending(hall, other, boxes, arrows)
                if told is not sends(hall, other, boxes, arrows):
                    self.fail((hall.ends, other.ends, boxes, arrows))
                found += told
            counts.append(found)
        self.assertGreater(min(counts), 0)

    def test_how_many_there_are(self):
        def count(hall, other):
            return len([1 for boxes, arrows in tries(hall, other) if is_sending(hall, other, boxes, arrows)])

        self.assertEqual(count(Hall(*turns(1, 2)), Hall(*turns(1, 4))), 2)
        self.assertEqual(count(Hall(*turns(1, 3)), Hall(*turns(1, 4))), 1)
        self.assertEqual(count(Hall(*turns(1, 3)), Hall(*turns(1, 3))), 3)
        self.assertEqual(count(Hall(*stairs(2)), Hall(*stairs(3))), 6)
        self.assertEqual(count(Hall(*stairs(2)), Hall(*maps([1, 2]))), 8)

    def test_one_number_changed(self):
        for name, (hall, other, boxes, arrows) in some_sendings().items():
            if len(hall.ends) <= 12:
                for box, number in itertools.product(range(len(boxes)), range(-2, len(other.rests) + 2)):
                    changed = boxes[:box] + [number] + boxes[box + 1:]
                    with self.subTest(name, boxes=changed):
                        self.assertIs(is_sending(hall, other, changed, arrows), sends(hall, other, changed, arrows))
                for arrow, number in itertools.product(range(len(arrows)), range(-2, len(other.ends) + 2)):
                    changed = arrows[:arrow] + [number] + arrows[arrow + 1:]
                    with self.subTest(name, arrows=changed):
                        self.assertIs(is_sending(hall, other, boxes, changed), sends(hall, other, boxes, changed))

    def test_numbers_that_are_none(self):
        for name, (hall, other, boxes, arrows) in some_sendings().items():
            with self.subTest(name):
                for number in no_numbers(len(other.rests)):
                    self.assertIs(is_sending(hall, other, boxes[:-1] + [number], arrows), False)
                    self.assertIs(is_sending(hall, other, [number] + boxes[1:], arrows), False)
                for number in no_numbers(len(other.ends)):
                    self.assertIs(is_sending(hall, other, boxes, arrows[:-1] + [number]), False)
                    self.assertIs(is_sending(hall, other, boxes, [number] + arrows[1:]), False)

    def test_lists_too_short_or_too_long(self):
        for name, (hall, other, boxes, arrows) in some_sendings().items():
            with self.subTest(name):
                for wrong in ([], boxes[:-1], boxes + [0], boxes + [-1], boxes[:1] * 60):
                    self.assertIs(is_sending(hall, other, wrong, arrows), False)
                for wrong in ([], arrows[:-1], arrows + [0], arrows + [-1], arrows[:1] * 60):
                    self.assertIs(is_sending(hall, other, boxes, wrong), False)

    def test_a_rest_is_told_for_a_rest(self):
        hall = Hall([(0, 0), (0, 0)], [1], [[0, 0], [0, 1]])
        self.assertIs(is_sending(hall, hall, [0], [0, 1]), True)
        self.assertIs(is_sending(hall, hall, [0], [1, 1]), True)
        self.assertIs(is_sending(hall, hall, [0], [0, 0]), False)
        self.assertIs(is_sending(Hall(*still(1)), hall, [0], [0]), False)
        self.assertIs(is_sending(Hall(*still(1)), hall, [0], [1]), True)

    def test_the_arrow_that_two_make(self):
        hall = Hall(*turns(1, 4))
        self.assertIs(is_sending(hall, hall, [0], [0, 3, 2, 1]), True)
        self.assertIs(is_sending(hall, hall, [0], [0, 1, 3, 2]), False)
        self.assertIs(is_sending(hall, hall, [0], [1, 2, 3, 0]), False)

    def test_ends(self):
        hall = Hall(*turns(2, 1))
        self.assertIs(is_sending(hall, hall, [1, 0], [3, 2, 1, 0]), True)
        self.assertIs(is_sending(hall, hall, [0, 1], [3, 2, 1, 0]), False)
        self.assertIs(is_sending(hall, hall, [0, 0], [0, 1, 2, 3]), False)

    def test_a_hall_that_has_no_room(self):
        self.assertIs(is_sending(Hall(*turns(2, 1)), Hall(*stairs(2)), [0, 1], [0, 1, 1, 2]), False)
        self.assertIs(is_sending(Hall(*turns(2, 1)), Hall(*stairs(2)), [1, 1], [2, 2, 2, 2]), True)


class ReadThrough(unittest.TestCase):
    def test_point_sixteen(self):
        for name, (hall, other, boxes, arrows) in some_sendings().items():
            for reading in some_readings(other):
                with self.subTest(name, counts=reading[0]):
                    told = asked(self, read_through, hall, other, boxes, arrows, reading)
                    self.assertEqual(told[0], [reading[0][boxes[box]] for box in range(len(hall.rests))])
                    self.assertEqual(told[1], [reading[1][arrows[arrow]] for arrow in range(len(hall.ends))])
                    self.assertTrue(reads(hall, *told))
                    self.assertIs(is_reading(hall, *told), True)

    def test_a_change_read_through_is_a_change(self):
        for name, (hall, other, boxes, arrows) in some_sendings().items():
            for one, two in itertools.product(some_readings(other), repeat=2):
                if ways(one, two) <= 300:
                    near = [read_through(hall, other, boxes, arrows, reading) for reading in (one, two)]
                    with self.subTest(name, one=one[0], two=two[0]):
                        for change in all_changes(other, one, two):
                            led = [list(change[box]) for box in boxes]
                            self.assertTrue(is_change(hall, *near, led))
                            if ways(*near) <= 300:
                                self.assertIn(led, changes(hall, *near))

    def test_written_out(self):
        hall, other, boxes, arrows = stairs_up((1, 1, 2), 3, 4)
        counts = [1, 2, 3, 1]
        lists = [[] for _ in other.ends]
        for arrow, (low, high) in enumerate(other.ends):
            lists[arrow] = list(range(counts[low])) if low == high else [0] * counts[low]
        lists[other.ends.index((1, 2))] = [2, 0]
        lists[other.ends.index((0, 2))] = [2]
        self.assertEqual(read_through(hall, other, boxes, arrows, (counts, lists)),
                         ([2, 2, 3], [[0, 1], [0, 1], [2, 0], [0, 1], [2, 0], [0, 1, 2]]))

    def test_kinds(self):
        hall = Hall(*stairs(2))
        told = read_through(*onto_itself(hall), unmoved(hall, 1))
        self.assertIs(type(told), tuple)
        self.assertEqual([type(part) for part in told], [list, list])
        self.assertEqual([type(things) for things in told[1]], [list] * 3)

    def test_no_two_lists_are_one(self):
        hall = Hall(*turns(1, 40))
        told = read_through(*all_to_a_box(hall, hall, 0), arrows_out(hall, 0))
        told[1][0].append(7)
        self.assertEqual(told[1][1:], [list(range(40))] * 39)
        self.assertEqual(len({id(things) for things in told[1]}), 40)

    def test_onto_itself_a_reading_is_as_it_was(self):
        for hall in both_ways().values():
            for reading in some_readings(hall):
                self.assertEqual(read_through(*onto_itself(hall), reading), reading)

    def test_no_reading(self):
        for name, told in some_sendings().items():
            for number, wrong in enumerate(wrong_readings(told[1])):
                with self.subTest(name, number=number):
                    refused(self, NoReading, read_through, *told, wrong)

    def test_no_pair(self):
        hall = Hall(*stairs(2))
        right = unmoved(hall, 1)
        for wrong in ((), right[:1], right + ([],)):
            refused(self, NoReading, read_through, *onto_itself(hall), wrong)

    def test_a_reading_of_the_first_hall_alone(self):
        hall, other, boxes, arrows = stairs_up((0, 1, 3), 3, 4)
        refused(self, NoReading, read_through, hall, other, boxes, arrows, unmoved(hall, 1))
        self.assertEqual(read_through(hall, other, boxes, arrows, unmoved(other, 1)), unmoved(hall, 1))

    def test_no_sending(self):
        for name, (hall, other, boxes, arrows) in some_sendings().items():
            right = unmoved(other, 1)
            with self.subTest(name):
                for number in (-1, len(other.rests), THIRTY_FIGURES):
                    refused(self, NoSending, read_through, hall, other, boxes[:-1] + [number], arrows, right)
                for number in (-1, len(other.ends), THIRTY_FIGURES):
                    refused(self, NoSending, read_through, hall, other, boxes, arrows[:-1] + [number], right)
                refused(self, NoSending, read_through, hall, other, boxes[:-1], arrows, right)
                refused(self, NoSending, read_through, hall, other, boxes + [0], arrows, right)
                refused(self, NoSending, read_through, hall, other, boxes, arrows[:-1], right)
                refused(self, NoSending, read_through, hall, other, boxes, arrows + [0], right)

    def test_no_sending_by_each_fault(self):
        hall = Hall(*turns(1, 4))
        for arrows in ([0, 1, 3, 2], [1, 2, 3, 0], [0, 0, 0, 1]):
            refused(self, NoSending, read_through, hall, hall, [0], arrows, unmoved(hall, 1))
        hall = Hall(*turns(2, 1))
        refused(self, NoSending, read_through, hall, hall, [0, 0], [0, 1, 2, 3], unmoved(hall, 1))

    def test_no_sending_ahead_of_no_reading(self):
        for name, (hall, other, boxes, arrows) in some_sendings().items():
            with self.subTest(name):
                for wrong in wrong_readings(other):
                    refused(self, NoSending, read_through, hall, other, boxes[:-1] + [-1], arrows, wrong)
                    refused(self, NoSending, read_through, hall, other, boxes, arrows[:-1], wrong)


if __name__ == "__main__":
    unittest.main()
