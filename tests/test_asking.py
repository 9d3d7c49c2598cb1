import itertools
import unittest

from arrowhall.errors import NoArrow, NoBox
from arrowhall.halls import Hall, between, then
from tests.helper import (fields, first_stays, halls, map_arrows, maps, refused, refused_in_either_place, stairs,
                          turns)


class Then(unittest.TestCase):
    def test_what_the_table_tells(self):
        for name, hall in halls().items():
            before = fields(hall)
            for one, other in itertools.product(range(len(hall.ends)), repeat=2):
                follows = hall.ends[one][1] == hall.ends[other][0]
                with self.subTest(name, one=one, other=other):
                    self.assertEqual(then(hall, one, other), before[2][one][other] if follows else None)
            self.assertEqual(fields(hall), before)

    def test_the_first_one_goes_first(self):
        hall = Hall(*first_stays())
        self.assertEqual(then(hall, 1, 2), 1)
        self.assertEqual(then(hall, 2, 1), 2)

    def test_maps_one_after_the_other(self):
        arrows = map_arrows([1, 2])
        hall = Hall(*maps([1, 2]))
        change_about = arrows.index((1, 1, (1, 0)))
        all_to_one = arrows.index((1, 1, (1, 1)))
        all_to_nought = arrows.index((1, 1, (0, 0)))
        only = arrows.index((1, 0, (0, 0)))
        self.assertEqual(then(hall, all_to_one, change_about), all_to_nought)
        self.assertEqual(then(hall, change_about, all_to_one), all_to_one)
        self.assertEqual(then(hall, change_about, only), only)
        self.assertIsNone(then(hall, only, change_about))

    def test_arrow_nought_is_made_too(self):
        made = then(Hall(*turns(1, 2)), 1, 1)
        self.assertEqual(made, 0)
        self.assertIsNotNone(made)

    def test_not_following(self):
        hall = Hall(*stairs(2))
        self.assertEqual(hall.ends, [(0, 0), (0, 1), (1, 1)])
        self.assertIsNone(then(hall, 1, 0))
        self.assertIsNone(then(hall, 1, 1))
        self.assertEqual(then(hall, 0, 1), 1)

    def test_no_arrow_in_either_place(self):
        for hall in halls().values():
            refused_in_either_place(self, NoArrow, then, hall, len(hall.ends))


class Between(unittest.TestCase):
    def test_every_arrow_stands_in_its_list(self):
        for name, hall in halls().items():
            before = fields(hall)
            boxes = range(len(hall.rests))
            for box, other in itertools.product(boxes, repeat=2):
                with self.subTest(name, box=box, other=other):
                    told = between(hall, box, other)
                    self.assertIs(type(told), list)
                    self.assertEqual(told, sorted(told))
                    self.assertEqual([hall.ends[arrow] for arrow in told], [(box, other)] * len(told))
            listed = [arrow for box in boxes for other in boxes for arrow in between(hall, box, other)]
            self.assertEqual(sorted(listed), list(range(len(hall.ends))))
            self.assertEqual(fields(hall), before)

    def test_lists_written_out(self):
        hall = Hall(*turns(2, 2))
        self.assertEqual(between(hall, 0, 0), [0, 1])
        self.assertEqual(between(hall, 0, 1), [2, 3])
        self.assertEqual(between(hall, 1, 0), [4, 5])
        self.assertEqual(between(hall, 1, 1), [6, 7])

    def test_the_empty_list(self):
        hall = Hall(*stairs(2))
        self.assertEqual(between(hall, 0, 1), [1])
        self.assertEqual(between(hall, 1, 0), [])

    def test_told_anew(self):
        hall = Hall(*turns(2, 2))
        before = fields(hall)
        for box, other in itertools.product(range(2), repeat=2):
            told = between(hall, box, other)
            again = between(hall, box, other)
            right = list(told)
            told.append(7)
            told[0] = 9
            self.assertEqual(again, right)
            self.assertEqual(between(hall, box, other), right)
        empty = between(Hall(*stairs(2)), 1, 0)
        empty.append(3)
        self.assertEqual(between(Hall(*stairs(2)), 1, 0), [])
        self.assertEqual(fields(hall), before)

    def test_no_box_in_either_place(self):
        for hall in halls().values():
            refused_in_either_place(self, NoBox, between, hall, len(hall.rests))

    def test_an_arrow_beyond_the_boxes_is_no_box(self):
        hall = Hall(*turns(1, 40))
        refused(self, NoBox, between, hall, 0, 1)
        refused(self, NoBox, between, hall, 39, 0)


if __name__ == "__main__":
    unittest.main()
