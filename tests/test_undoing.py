import itertools
import unittest

from arrowhall.errors import NoArrow, NoBox
from arrowhall.halls import Hall, turned
from arrowhall.undoing import alike, undone
from tests.helper import (fields, first_stays, halls, map_arrows, maps, mixed, no_numbers, refused,
                          refused_in_either_place, stairs, still, turns)


def undoers(hall, arrow):
    """All arrows that undo it, by the words of point 6."""
    rests = [hall.rests[box] for box in hall.ends[arrow]]
    return [other for other in range(len(hall.ends))
            if [hall.table[arrow][other], hall.table[other][arrow]] == rests]


class Undone(unittest.TestCase):
    def test_point_six(self):
        for name, hall in halls().items():
            before = fields(hall)
            for arrow in range(len(hall.ends)):
                with self.subTest(name, arrow=arrow):
                    right = undoers(hall, arrow)
                    self.assertLessEqual(len(right), 1)
                    self.assertEqual(undone(hall, arrow), right[0] if right else None)
            self.assertEqual(fields(hall), before)

    def test_a_rest_undoes_itself(self):
        for hall in halls().values():
            for rest in hall.rests:
                self.assertEqual(undone(hall, rest), rest)

    def test_turns_are_turned_back(self):
        hall = Hall(*turns(1, 40))
        self.assertEqual([undone(hall, arrow) for arrow in range(40)], [0] + list(range(39, 0, -1)))

    def test_over_and_back(self):
        hall = Hall(*turns(2, 3))
        self.assertEqual(hall.ends[4], (0, 1))
        self.assertEqual(hall.ends[8], (1, 0))
        self.assertEqual(undone(hall, 4), 8)
        self.assertEqual(undone(hall, 8), 4)

    def test_steps_that_none_leads_back(self):
        hall = Hall(*stairs(2))
        self.assertEqual([undone(hall, arrow) for arrow in range(3)], [0, None, 2])

    def test_back_one_way_alone_is_not_undone(self):
        arrows = map_arrows([1, 2])
        hall = Hall(*maps([1, 2]))
        inward = arrows.index((0, 1, (0,)))
        outward = arrows.index((1, 0, (0, 0)))
        self.assertEqual(hall.table[inward][outward], hall.rests[0])
        self.assertIsNone(undone(hall, inward))
        self.assertIsNone(undone(hall, outward))

    def test_maps_that_can_be_undone(self):
        for sizes in ([2], [1, 2], [0, 1, 2], [2, 2], [3]):
            arrows = map_arrows(sizes)
            hall = Hall(*maps(sizes))
            for number, (start, goal, images) in enumerate(arrows):
                right = None
                if sorted(images) == list(range(sizes[goal])):
                    back = tuple(images.index(thing) for thing in range(sizes[goal]))
                    right = arrows.index((goal, start, back))
                self.assertEqual(undone(hall, number), right)

    def test_nought_is_told_as_a_number(self):
        hall = Hall(*mixed(turns(1, 3), 2))
        told = [undone(hall, arrow) for arrow in range(3)]
        self.assertEqual(sorted(told), [0, 1, 2])

    def test_turned_round_it_is_the_same(self):
        for hall in halls().values():
            other = turned(hall)
            for arrow in range(len(hall.ends)):
                self.assertEqual(undone(other, arrow), undone(hall, arrow))

    def test_no_arrow(self):
        for hall in halls().values():
            for number in no_numbers(len(hall.ends)):
                refused(self, NoArrow, undone, hall, number)


class Alike(unittest.TestCase):
    def test_point_six(self):
        for name, hall in halls().items():
            before = fields(hall)
            for box, other in itertools.product(range(len(hall.rests)), repeat=2):
                with self.subTest(name, box=box, other=other):
                    right = [arrow for arrow, pair in enumerate(hall.ends)
                             if pair == (box, other) and undoers(hall, arrow)]
                    self.assertEqual(alike(hall, box, other), min(right, default=None))
            self.assertEqual(fields(hall), before)

    def test_a_box_is_alike_to_itself(self):
        hall = Hall(*still(6))
        self.assertEqual([alike(hall, box, box) for box in range(6)], [0, 1, 2, 3, 4, 5])

    def test_the_rest_need_not_be_the_least(self):
        ends, rests, table = mixed(turns(1, 3), 2)
        self.assertEqual(rests, [1])
        self.assertEqual(alike(Hall(ends, rests, table), 0, 0), 0)

    def test_the_least_that_can_be_undone_is_not_the_least_arrow(self):
        hall = Hall(*mixed(first_stays(), 2))
        self.assertEqual(hall.rests, [1])
        self.assertEqual(alike(hall, 0, 0), 1)
        arrows = map_arrows([2, 2])
        hall = Hall(*maps([2, 2]))
        self.assertEqual(alike(hall, 0, 1), arrows.index((0, 1, (0, 1))))
        self.assertEqual(alike(hall, 1, 0), arrows.index((1, 0, (0, 1))))

    def test_the_least_of_several(self):
        hall = Hall(*turns(2, 2))
        told = [alike(hall, box, other) for box, other in itertools.product(range(2), repeat=2)]
        self.assertEqual(told, [0, 2, 4, 6])

    def test_not_alike(self):
        hall = Hall(*stairs(2))
        self.assertIsNone(alike(hall, 0, 1))
        self.assertIsNone(alike(hall, 1, 0))
        hall = Hall(*still(2))
        self.assertIsNone(alike(hall, 0, 1))

    def test_arrows_either_way_are_not_enough(self):
        hall = Hall(*maps([1, 2]))
        self.assertIsNone(alike(hall, 0, 1))
        self.assertIsNone(alike(hall, 1, 0))

    def test_no_box_in_either_place(self):
        for hall in halls().values():
            refused_in_either_place(self, NoBox, alike, hall, len(hall.rests))


if __name__ == "__main__":
    unittest.main()
