import itertools
import unittest

from arrowhall.halls import Hall, between, then, turned
from tests.helper import fields, first_stays, halls, lists_of, stairs


class Turned(unittest.TestCase):
    def test_point_five(self):
        for name, hall in halls().items():
            with self.subTest(name):
                other = turned(hall)
                self.assertIs(type(other), Hall)
                self.assertEqual(other.rests, hall.rests)
                self.assertEqual(other.ends, [(goal, start) for start, goal in hall.ends])
                for one, two in itertools.product(range(len(hall.ends)), repeat=2):
                    self.assertEqual(other.table[two][one], hall.table[one][two])
                    self.assertEqual(then(other, two, one), then(hall, one, two))

    def test_written_out(self):
        other = turned(Hall(*stairs(2)))
        self.assertEqual(other.ends, [(0, 0), (1, 0), (1, 1)])
        self.assertEqual(other.rests, [0, 2])
        self.assertEqual(other.table, [[0, -1, -1], [1, -1, -1], [-1, 1, 2]])

    def test_the_last_stays_where_the_first_stayed(self):
        other = turned(Hall(*first_stays()))
        self.assertEqual(other.table, [[0, 1, 2], [1, 1, 2], [2, 1, 2]])

    def test_kinds(self):
        other = turned(Hall(*stairs(3)))
        for told in lists_of(other):
            self.assertIs(type(told), list)
        for pair in other.ends:
            self.assertIs(type(pair), tuple)

    def test_turned_again(self):
        for name, hall in halls().items():
            with self.subTest(name):
                self.assertEqual(fields(turned(turned(hall))), fields(hall))

    def test_arrows_between_boxes(self):
        for hall in halls().values():
            other = turned(hall)
            for box, goal in itertools.product(range(len(hall.rests)), repeat=2):
                self.assertEqual(between(other, goal, box), between(hall, box, goal))

    def test_the_hall_stays_and_shares_no_list(self):
        for name, hall in halls().items():
            with self.subTest(name):
                before = fields(hall)
                other = turned(hall)
                again = turned(other)
                self.assertEqual(fields(hall), before)
                lists = lists_of(hall) + lists_of(other) + lists_of(again)
                self.assertEqual(len({id(each) for each in lists}), len(lists))


if __name__ == "__main__":
    unittest.main()
