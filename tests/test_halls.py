import copy
import itertools
import unittest

from arrowhall.errors import NoHall
from arrowhall.halls import Hall
from tests.helper import (THIRTY_FIGURES, beside, fields, first_stays, forked, is_hall, lists_of, maps, mixed,
                          no_numbers, refused, samples, stairs, still, turns)


class AsTold(unittest.TestCase):
    def test_fields_are_as_told(self):
        for name, told in samples().items():
            with self.subTest(name):
                before = copy.deepcopy(told)
                hall = Hall(*told)
                self.assertEqual((hall.ends, hall.rests, hall.table), before)
                self.assertEqual(told, before)

    def test_kinds_of_the_fields(self):
        hall = Hall(*stairs(2))
        for told in lists_of(hall):
            self.assertIs(type(told), list)
        for pair in hall.ends:
            self.assertIs(type(pair), tuple)

    def test_one_to_six_boxes(self):
        for boxes in range(1, 7):
            with self.subTest(boxes):
                self.assertEqual(Hall(*still(boxes)).rests, list(range(boxes)))

    def test_one_to_forty_arrows(self):
        for arrows in range(1, 41):
            with self.subTest(arrows):
                self.assertEqual(len(Hall(*turns(1, arrows)).ends), arrows)

    def test_six_boxes_and_forty_arrows(self):
        told = beside(turns(1, 35), still(5))
        self.assertEqual((len(told[0]), len(told[1])), (40, 6))
        self.assertEqual(fields(Hall(*told)), told)

    def test_halls_written_out(self):
        hall = Hall([(0, 0), (0, 1), (1, 1)], [0, 2], [[0, 1, -1], [-1, -1, 1], [-1, -1, 2]])
        self.assertEqual(hall.ends, [(0, 0), (0, 1), (1, 1)])
        self.assertEqual(hall.rests, [0, 2])
        self.assertEqual(hall.table, [[0, 1, -1], [-1, -1, 1], [-1, -1, 2]])

    def test_the_rest_may_be_any_arrow(self):
        hall = Hall([(0, 0), (0, 0)], [1], [[0, 0], [0, 1]])
        self.assertEqual(hall.rests, [1])


class NotKept(unittest.TestCase):
    def test_later_changes_are_not_seen(self):
        for name, told in samples().items():
            with self.subTest(name):
                before = copy.deepcopy(told)
                hall = Hall(*told)
                ends, rests, table = told
                ends[0] = (5, 5)
                ends.append((0, 0))
                rests[0] = 7
                rests.clear()
                for row in table:
                    row[0] = 39
                table[-1].append(3)
                table.pop(0)
                self.assertEqual(fields(hall), before)

    def test_what_is_handed_in_stays(self):
        for told in (stairs(3), ([(0, 0)], [0], [[1]]), forked(9, 10)):
            before = copy.deepcopy(told)
            try:
                Hall(*told)
            except NoHall:
                pass
            self.assertEqual(told, before)

    def test_no_two_lists_are_one(self):
        ends, rests, table = [(0, 0), (0, 0)], [0], [[0, 1], [1, 1]]
        one, other = Hall(ends, rests, table), Hall(ends, rests, table)
        lists = lists_of(one) + lists_of(other) + [ends, rests, table] + table
        self.assertEqual(len({id(each) for each in lists}), len(lists))

    def test_one_list_handed_in_twice(self):
        ends, row = [(0, 0)], [0]
        hall = Hall(ends, row, [row])
        row[0] = 5
        self.assertEqual(fields(hall), ([(0, 0)], [0], [[0]]))
        self.assertIsNot(hall.rests, hall.table[0])


class Counts(unittest.TestCase):
    def test_no_boxes(self):
        refused(self, NoHall, Hall, [(0, 0)], [], [[0]])

    def test_nothing_at_all(self):
        refused(self, NoHall, Hall, [], [], [])

    def test_seven_boxes(self):
        refused(self, NoHall, Hall, *still(7))
        refused(self, NoHall, Hall, *stairs(7))

    def test_sixty_boxes(self):
        refused(self, NoHall, Hall, *still(60))

    def test_no_arrows(self):
        refused(self, NoHall, Hall, [], [0], [])
        refused(self, NoHall, Hall, [], [0], [[0]])

    def test_forty_one_arrows(self):
        self.assertEqual(len(Hall(*turns(1, 40)).ends), 40)
        refused(self, NoHall, Hall, *turns(1, 41))
        refused(self, NoHall, Hall, *beside(turns(1, 36), still(5)))
        refused(self, NoHall, Hall, *turns(1, 60))


class Ends(unittest.TestCase):
    def test_an_end_that_is_no_box(self):
        for told in (still(1), stairs(3), turns(6, 1)):
            ends, rests, table = told
            for arrow, pair in enumerate(ends):
                for number in no_numbers(len(rests)):
                    for wrong in ((number, pair[1]), (pair[0], number), (number, number)):
                        changed = ends[:arrow] + [wrong] + ends[arrow + 1:]
                        refused(self, NoHall, Hall, changed, rests, table)

    def test_an_end_that_is_no_box_in_a_table_that_goes_with_it(self):
        for number in no_numbers(1):
            refused(self, NoHall, Hall, [(0, 0), (0, number)], [0], [[0, 1], [-1, -1]])
            refused(self, NoHall, Hall, [(0, 0), (number, 0)], [0], [[0, -1], [1, -1]])
            refused(self, NoHall, Hall, [(0, 0), (number, number)], [0], [[0, -1], [-1, 1]])

    def test_an_end_that_is_another_box(self):
        ends, rests, table = stairs(3)
        for arrow, pair in enumerate(ends):
            for wrong in itertools.product(range(3), repeat=2):
                if wrong != pair:
                    refused(self, NoHall, Hall, ends[:arrow] + [wrong] + ends[arrow + 1:], rests, table)

    def test_ends_that_are_no_pair(self):
        for wrong in ((), (0,), (0, 0, 0)):
            refused(self, NoHall, Hall, [wrong], [0], [[0]])

    def test_an_arrow_left_out_or_more(self):
        ends, rests, table = stairs(3)
        refused(self, NoHall, Hall, ends[:-1], rests, table)
        refused(self, NoHall, Hall, ends + [(0, 0)], rests, table)


class Rests(unittest.TestCase):
    def test_a_rest_that_is_no_arrow(self):
        for told in (still(1), stairs(3), turns(1, 40)):
            ends, rests, table = told
            for box in range(len(rests)):
                for number in no_numbers(len(ends)):
                    refused(self, NoHall, Hall, ends, rests[:box] + [number] + rests[box + 1:], table)

    def test_a_rest_that_leads_otherwise(self):
        ends, rests, table = maps([1, 2])
        for box, arrow in itertools.product(range(2), range(len(ends))):
            if ends[arrow] != (box, box):
                refused(self, NoHall, Hall, ends, rests[:box] + [arrow] + rests[box + 1:], table)

    def test_an_arrow_to_itself_that_is_not_the_rest(self):
        for told in (turns(1, 3), first_stays(), maps([2])):
            ends, rests, table = told
            for arrow in range(len(ends)):
                if arrow != rests[0]:
                    refused(self, NoHall, Hall, ends, [arrow], table)

    def test_a_rest_left_out(self):
        for told in (still(2), stairs(3), turns(6, 1)):
            ends, rests, table = told
            for box in range(len(rests)):
                refused(self, NoHall, Hall, ends, rests[:box] + rests[box + 1:], table)

    def test_one_rest_more(self):
        for told in (still(1), stairs(3), turns(1, 3), turns(2, 2)):
            ends, rests, table = told
            for arrow in range(-1, len(ends) + 1):
                refused(self, NoHall, Hall, ends, rests + [arrow], table)

    def test_rests_changed_about(self):
        ends, rests, table = turns(2, 2)
        refused(self, NoHall, Hall, ends, list(reversed(rests)), table)


class Form(unittest.TestCase):
    def test_rows_shorter_and_longer(self):
        for told in (still(1), stairs(3), turns(1, 40)):
            ends, rests, table = told
            for one in range(len(ends)):
                for row in ([], table[one][:-1], table[one] + [-1], table[one] + [0]):
                    refused(self, NoHall, Hall, ends, rests, table[:one] + [row] + table[one + 1:])

    def test_rows_left_out_and_more(self):
        for told in (still(1), stairs(3), turns(1, 40)):
            ends, rests, table = told
            for wrong in ([], table[:-1], table[1:], table + [table[0]], table + [[]]):
                refused(self, NoHall, Hall, ends, rests, wrong)

    def test_a_row_and_an_entry_more_everywhere(self):
        ends, rests, table = turns(1, 4)
        refused(self, NoHall, Hall, ends[:3], rests, table)
        ends, rests, table = still(3)
        wider = [row + [-1] for row in table] + [[-1] * 4]
        refused(self, NoHall, Hall, ends, rests, wider)


class Entries(unittest.TestCase):
    def changed(self, told, one, other, made):
        ends, rests, table = copy.deepcopy(told)
        table[one][other] = made
        return ends, rests, table

    def test_an_entry_that_is_no_arrow(self):
        for told in (still(2), stairs(3), turns(1, 3), maps([1, 2])):
            count = len(told[0])
            for one, other in itertools.product(range(count), repeat=2):
                for made in no_numbers(count):
                    if made != told[2][one][other]:
                        refused(self, NoHall, Hall, *self.changed(told, one, other, made))

    def test_thirty_figures(self):
        refused(self, NoHall, Hall, [(0, 0)], [0], [[THIRTY_FIGURES]])
        refused(self, NoHall, Hall, [(0, 0)], [0], [[-THIRTY_FIGURES]])

    def test_not_minus_one_where_they_do_not_follow(self):
        told = maps([1, 2])
        for one, other in itertools.product(range(len(told[0])), repeat=2):
            if told[2][one][other] == -1:
                for made in range(len(told[0])):
                    refused(self, NoHall, Hall, *self.changed(told, one, other, made))

    def test_minus_one_where_they_follow(self):
        for told in samples().values():
            if len(told[0]) <= 12:
                for one, other in itertools.product(range(len(told[0])), repeat=2):
                    if told[2][one][other] != -1:
                        refused(self, NoHall, Hall, *self.changed(told, one, other, -1))

    def test_an_arrow_that_leads_elsewhere(self):
        for told in (stairs(3), turns(3, 1), maps([1, 2])):
            ends, rests, table = told
            for one, other, made in itertools.product(range(len(ends)), repeat=3):
                right = table[one][other]
                if right != -1 and ends[made] != ends[right]:
                    refused(self, NoHall, Hall, *self.changed(told, one, other, made))

    def test_half_of_where_it_leads_is_not_enough(self):
        ends = [(0, 0), (1, 1), (0, 1), (0, 1), (0, 0)]
        table = [[0, -1, 2, 3, 4], [-1, 1, -1, -1, -1], [-1, 2, -1, -1, -1], [-1, 3, -1, -1, -1], [4, -1, 2, 3, 4]]
        self.assertEqual(fields(Hall(ends, [0, 1], table)), (ends, [0, 1], table))
        table[4][4] = 2
        refused(self, NoHall, Hall, ends, [0, 1], table)
        table[4][4] = 1
        refused(self, NoHall, Hall, ends, [0, 1], table)
        table[4][4] = 4
        table[4][2] = 1
        refused(self, NoHall, Hall, ends, [0, 1], table)

    def test_every_change_of_one_entry(self):
        for name, told in samples().items():
            count = len(told[0])
            if count <= 8:
                for one, other in itertools.product(range(count), repeat=2):
                    for made in range(-2, count + 1):
                        changed = self.changed(told, one, other, made)
                        with self.subTest(name, one=one, other=other, made=made):
                            self.judged(changed)

    def judged(self, told):
        if is_hall(*told):
            self.assertEqual(fields(Hall(*told)), told)
        else:
            refused(self, NoHall, Hall, *told)


class PointThree(unittest.TestCase):
    def test_a_rest_ahead(self):
        ends = [(0, 0), (1, 1), (0, 1), (0, 1)]
        table = [[0, -1, 2, 2], [-1, 1, -1, -1], [-1, 2, -1, -1], [-1, 3, -1, -1]]
        refused(self, NoHall, Hall, ends, [0, 1], table)
        table[0][3] = 3
        self.assertEqual(Hall(ends, [0, 1], table).table, table)

    def test_a_rest_behind(self):
        ends = [(0, 0), (1, 1), (0, 1), (0, 1)]
        table = [[0, -1, 2, 3], [-1, 1, -1, -1], [-1, 2, -1, -1], [-1, 2, -1, -1]]
        refused(self, NoHall, Hall, ends, [0, 1], table)

    def test_a_rest_that_works_on_one_side_alone(self):
        refused(self, NoHall, Hall, [(0, 0), (0, 0)], [0], [[0, 1], [0, 1]])
        refused(self, NoHall, Hall, [(0, 0), (0, 0)], [0], [[0, 0], [1, 1]])

    def test_a_rest_that_does_not_make_itself(self):
        refused(self, NoHall, Hall, [(0, 0), (0, 0)], [0], [[1, 1], [1, 1]])

    def test_three_arrows_to_one_box(self):
        refused(self, NoHall, Hall, [(0, 0)] * 3, [0], [[0, 1, 2], [1, 2, 1], [2, 2, 2]])

    def test_three_arrows_over_four_boxes(self):
        for made_first, made_last in itertools.product((9, 10), repeat=2):
            told = forked(made_first, made_last)
            if made_first == made_last:
                self.assertEqual(fields(Hall(*told)), told)
            else:
                refused(self, NoHall, Hall, *told)
                refused(self, NoHall, Hall, *mixed(told, 3))

    def test_every_table_of_one_box_and_three_arrows(self):
        good = 0
        for told in itertools.product(range(3), repeat=4):
            table = [[0, 1, 2], [1, told[0], told[1]], [2, told[2], told[3]]]
            if is_hall([(0, 0)] * 3, [0], table):
                good += 1
                self.assertEqual(Hall([(0, 0)] * 3, [0], table).table, table)
            else:
                refused(self, NoHall, Hall, [(0, 0)] * 3, [0], table)
        # Of the 81 tables with arrow 0 as the rest, eleven keep point 3.
        self.assertEqual(good, 11)

    def test_one_fault_among_forty(self):
        ends, rests, table = turns(1, 40)
        table[39][39] = 39
        refused(self, NoHall, Hall, ends, rests, table)


if __name__ == "__main__":
    unittest.main()
