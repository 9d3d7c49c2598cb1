import itertools
import unittest

from arrowhall.errors import NoBox, NoPicture
from arrowhall.halls import Hall, turned
from arrowhall.undoing import undone
from arrowhall.views import best, through, views
from tests.helper import (THIRTY_FIGURES, arrows_from, asked, both_ways, first_stays, map_arrows, maps, mixed,
                          no_numbers, refused, small_ones, stairs, still, turns)


def ties_of(hall, places):
    """All ties that a picture with these places can have."""
    numbers = range(len(places))
    return [(i, j, arrow) for i in numbers for j in numbers for arrow in arrows_from(hall, places[i], places[j])]


def pictures(hall, most):
    """Pictures of at most as many places: without ties, with each one tie, and with two to four of them."""
    told = []
    for count in range(most + 1):
        for places in itertools.product(range(len(hall.rests)), repeat=count):
            ties = ties_of(hall, places)
            told.append((list(places), []))
            told += [(list(places), [tie]) for tie in ties]
            for more in (2, 3, 4):
                told += [(list(places), ties[at::5][:more]) for at in range(0, len(ties) - 5 * more + 5, 3)]
    return told


def some_pictures(hall):
    """So many that a hall isn't asked all day."""
    most = 3 if len(hall.ends) <= 8 else 2
    told = pictures(hall, most)
    return told[::max(1, len(told) // 150)]


def all_views(hall, places, ties, box):
    """By the words of point 8, tried list by list."""
    found = []
    for arrows in itertools.product(range(len(hall.ends)), repeat=len(places)):
        if [hall.ends[arrow] for arrow in arrows] == [(box, place) for place in places]:
            if all(hall.table[arrows[i]][arrow] == arrows[j] for i, j, arrow in ties):
                found.append(list(arrows))
    return found


def seen_by_all(hall, places, ties):
    return [(box, arrows) for box in range(len(hall.rests)) for arrows in all_views(hall, places, ties, box)]


def arrows_through(hall, view, other):
    """The arrows from the one view's box which, followed by the other one's arrows, make the one's."""
    return [arrow for arrow in arrows_from(hall, view[0], other[0])
            if [hall.table[arrow][behind] for behind in other[1]] == view[1]]


def best_ones(hall, seen):
    """By the words of point 9: each view has just one arrow to a best one."""
    return [one for one in seen if all(len(arrows_through(hall, view, one)) == 1 for view in seen)]


class Views(unittest.TestCase):
    def test_point_eight(self):
        for name, hall in both_ways().items():
            if len(hall.ends) <= 16:
                for places, ties in some_pictures(hall)[::3]:
                    with self.subTest(name, places=places, ties=ties):
                        for box in range(len(hall.rests)):
                            self.assertEqual(asked(self, views, hall, places, ties, box),
                                             all_views(hall, places, ties, box))

    def test_written_out(self):
        hall = Hall(*stairs(3))
        self.assertEqual(hall.ends, [(0, 0), (0, 1), (0, 2), (1, 1), (1, 2), (2, 2)])
        self.assertEqual(views(hall, [1, 2], [], 0), [[1, 2]])
        self.assertEqual(views(hall, [1, 2], [], 1), [[3, 4]])
        self.assertEqual(views(hall, [1, 2], [], 2), [])
        self.assertEqual(views(hall, [1, 2], [(0, 1, 4)], 1), [[3, 4]])

    def test_no_places(self):
        for name, hall in both_ways().items():
            for box in range(len(hall.rests)):
                with self.subTest(name, box=box):
                    self.assertEqual(asked(self, views, hall, [], [], box), [[]])

    def test_the_order(self):
        hall = Hall(*mixed(turns(1, 3), 2))
        self.assertEqual(views(hall, [0], [], 0), [[0], [1], [2]])
        self.assertEqual(views(hall, [0, 0], [], 0), [list(pair) for pair in itertools.product(range(3), repeat=2)])
        for places, ties in some_pictures(hall):
            told = views(hall, places, ties, 0)
            self.assertEqual(told, sorted(told))

    def test_all_that_forty_arrows_have(self):
        hall = Hall(*turns(1, 40))
        told = views(hall, [0, 0, 0], [], 0)
        self.assertEqual(told, [list(three) for three in itertools.product(range(40), repeat=3)])
        self.assertEqual(views(hall, [0, 0, 0], [(0, 1, 1), (2, 1, 3)], 0),
                         [[arrow, (arrow + 1) % 40, (arrow + 38) % 40] for arrow in range(40)])

    def test_a_tie_from_a_place_to_itself(self):
        hall = Hall(*turns(1, 3))
        self.assertEqual(views(hall, [0], [(0, 0, 0)], 0), [[0], [1], [2]])
        self.assertEqual(views(hall, [0], [(0, 0, 1)], 0), [])
        hall = Hall(*first_stays())
        self.assertEqual(views(hall, [0], [(0, 0, 1)], 0), [[1], [2]])
        self.assertEqual(views(turned(hall), [0], [(0, 0, 1)], 0), [[1]])

    def test_a_tie_leads_from_its_first_place(self):
        hall = Hall(*turns(1, 3))
        self.assertEqual(views(hall, [0, 0], [(0, 1, 1)], 0), [[0, 1], [1, 2], [2, 0]])
        self.assertEqual(views(hall, [0, 0], [(1, 0, 1)], 0), [[0, 2], [1, 0], [2, 1]])

    def test_the_tie_comes_behind(self):
        hall = Hall(*first_stays())
        self.assertEqual(views(hall, [0, 0], [(0, 1, 1)], 0), [[0, 1], [1, 1], [2, 2]])

    def test_each_tie_counts(self):
        hall = Hall(*turns(1, 3))
        for at in range(4):
            ties = [(0, 1, 1), (1, 2, 1), (2, 0, 1), (0, 0, 0)]
            self.assertEqual(len(views(hall, [0, 0, 0], ties, 0)), 3)
            ties[at] = (ties[at][0], ties[at][1], 2)
            self.assertEqual(views(hall, [0, 0, 0], ties, 0), [])

    def test_a_tie_told_twice(self):
        hall = Hall(*turns(1, 3))
        self.assertEqual(views(hall, [0, 0], [(0, 1, 1)] * 4, 0), [[0, 1], [1, 2], [2, 0]])


class Best(unittest.TestCase):
    def test_points_nine_and_ten(self):
        for name, hall in both_ways().items():
            if len(hall.ends) <= 16:
                for places, ties in some_pictures(hall):
                    seen = seen_by_all(hall, places, ties)
                    if len(seen) <= 40:
                        with self.subTest(name, places=places, ties=ties):
                            self.judge(hall, places, ties, seen)

    def judge(self, hall, places, ties, seen):
        right = best_ones(hall, seen)
        self.assertEqual(asked(self, best, hall, places, ties), min(right, default=None))
        for one, other in itertools.product(right, repeat=2):
            there, back = arrows_through(hall, one, other), arrows_through(hall, other, one)
            self.assertEqual((len(there), len(back)), (1, 1))
            self.assertEqual((undone(hall, there[0]), undone(hall, back[0])), (back[0], there[0]))

    def test_some_have_a_best_view_and_some_none(self):
        told = [best(hall, places, ties) for hall in small_ones().values() for places, ties in some_pictures(hall)]
        self.assertGreater(len([one for one in told if one is None]), 50)
        self.assertGreater(len([one for one in told if one is not None]), 50)

    def test_kinds(self):
        told = best(Hall(*stairs(3)), [1, 2], [])
        self.assertEqual(told, (1, [3, 4]))
        self.assertIs(type(told), tuple)
        self.assertIs(type(told[1]), list)

    def test_stairs_have_the_lower_one(self):
        hall = Hall(*stairs(6))
        numbers = {pair: arrow for arrow, pair in enumerate(hall.ends)}
        for places in itertools.product(range(6), repeat=3):
            low = min(places)
            right = (low, [numbers[low, place] for place in places])
            self.assertEqual(best(hall, list(places), []), right)
        other = turned(hall)
        for places in itertools.product(range(6), repeat=3):
            high = max(places)
            right = (high, [numbers[place, high] for place in places])
            self.assertEqual(best(other, list(places), []), right)

    def test_the_empty_picture(self):
        self.assertEqual(best(Hall(*stairs(3)), [], []), (2, []))
        self.assertEqual(best(turned(Hall(*stairs(3))), [], []), (0, []))
        self.assertEqual(best(Hall(*maps([0, 1, 2])), [], []), (1, []))
        self.assertEqual(best(Hall(*maps([2, 1, 1])), [], []), (1, []))
        self.assertEqual(best(turned(Hall(*maps([0, 1, 2]))), [], []), (0, []))
        self.assertEqual(best(Hall(*still(1)), [], []), (0, []))
        self.assertEqual(best(Hall(*turns(6, 1)), [], []), (0, []))
        self.assertIsNone(best(Hall(*still(2)), [], []))
        self.assertIsNone(best(Hall(*turns(1, 2)), [], []))

    def test_one_place_is_seen_best_from_a_box_alike(self):
        hall = Hall(*turns(3, 2))
        for box in range(3):
            self.assertEqual(best(hall, [box], []), (0, [arrows_from(hall, 0, box)[0]]))
        hall = Hall(*mixed(first_stays(), 2))
        self.assertEqual(hall.rests, [1])
        self.assertEqual(best(hall, [0], []), (0, [1]))

    def test_the_least_list_of_the_least_box(self):
        hall = Hall(*mixed(turns(1, 3), 2))
        self.assertEqual(hall.rests, [1])
        self.assertEqual(best(hall, [0], []), (0, [0]))
        self.assertEqual(best(hall, [0, 0], [(0, 1, 2)]), (0, [0, hall.table[0][2]]))

    def test_things_that_two_maps_lead_alike(self):
        arrows = map_arrows([0, 1, 2])
        hall = Hall(*maps([0, 1, 2]))
        to_nought, same, about = [arrows.index((2, 2, images)) for images in ((0, 0), (0, 1), (1, 0))]
        one = arrows.index((1, 2, (0,)))
        self.assertEqual(best(hall, [2, 2], [(0, 1, to_nought), (0, 1, same)]), (1, [one, one]))
        self.assertEqual(best(hall, [2, 2], [(0, 1, about), (0, 1, same)]),
                         (0, [arrows.index((0, 2, ()))] * 2))
        self.assertEqual(best(hall, [2, 2], [(0, 1, same)]), (2, [same, same]))

    def test_pairs_of_things_need_a_box_of_their_own(self):
        self.assertIsNone(best(Hall(*maps([2])), [0, 0], []))
        self.assertIsNone(best(Hall(*maps([0, 1, 2])), [2, 2], []))

    def test_as_many_arrows_as_views_are_not_enough(self):
        hall = Hall(*mixed(first_stays(), 2))
        for each in (hall, turned(hall)):
            self.assertEqual(views(each, [0], [], 0), [[0], [1], [2]])
            self.assertEqual(best(each, [0], []), (0, [1]))
        hall = Hall([(0, 0)] * 4, [0], [[0, 1, 2, 3], [1, 0, 2, 3], [2, 2, 2, 2], [3, 3, 3, 3]])
        ties = [(0, 0, 2), (1, 1, 2)]
        self.assertEqual(views(hall, [0, 0], ties, 0), [[2, 2], [2, 3], [3, 2], [3, 3]])
        self.assertEqual(best_ones(hall, seen_by_all(hall, [0, 0], ties)), [])
        self.assertIsNone(best(hall, [0, 0], ties))

    def test_large_halls(self):
        hall = Hall(*turns(1, 40))
        self.assertIsNone(best(hall, [0, 0, 0], []))
        self.assertIsNone(best(hall, [0, 0], []))
        self.assertEqual(best(hall, [0], []), (0, [0]))
        self.assertEqual(best(hall, [0, 0, 0], [(1, 0, 3), (1, 2, 5)]), (0, [0, 37, 2]))
        self.assertIsNone(best(hall, [0], [(0, 0, 1)]))
        hall = Hall(*turns(2, 10))
        self.assertEqual(best(hall, [1, 0], [(0, 1, 23)]), (0, [10, 3]))


class Through(unittest.TestCase):
    def test_each_view(self):
        for name, hall in both_ways().items():
            if len(hall.ends) <= 16:
                for places, ties in some_pictures(hall)[::4]:
                    told = best(hall, places, ties)
                    seen = seen_by_all(hall, places, ties)
                    for box, arrows in seen[::max(1, len(seen) // 20)]:
                        right = None if told is None else arrows_through(hall, (box, arrows), told)[0]
                        with self.subTest(name, places=places, ties=ties, box=box, arrows=arrows):
                            self.assertEqual(asked(self, through, hall, places, ties, box, arrows), right)

    def test_the_best_view_itself_has_its_rest(self):
        for hall in small_ones().values():
            for places, ties in some_pictures(hall):
                told = best(hall, places, ties)
                if told is not None:
                    self.assertEqual(through(hall, places, ties, *told), hall.rests[told[0]])

    def test_written_out(self):
        hall = Hall(*stairs(3))
        self.assertEqual(through(hall, [1, 2], [], 0, [1, 2]), 1)
        self.assertEqual(through(hall, [1, 2], [], 1, [3, 4]), 3)
        hall = Hall(*turns(1, 5))
        self.assertEqual([through(hall, [0, 0], [(0, 1, 2)], 0, [arrow, (arrow + 2) % 5]) for arrow in range(5)],
                         [0, 1, 2, 3, 4])

    def test_no_places(self):
        hall = Hall(*maps([0, 1, 2]))
        self.assertEqual([through(hall, [], [], box, []) for box in range(3)],
                         [arrows_from(hall, box, 1)[0] for box in range(3)])
        self.assertIsNone(through(hall, [], [], 0, [0]))
        self.assertIsNone(through(Hall(*still(2)), [], [], 0, []))

    def test_no_view(self):
        hall = Hall(*stairs(3))
        for arrows in ([], [1], [1, 2, 2], [2, 1], [3, 4], [1, 5], [0, 0], [-1, -1], [1, -4], [-5, 2], [1] * 60,
                       [1, THIRTY_FIGURES], [-THIRTY_FIGURES, 2], [6, 2], [1, 6]):
            with self.subTest(arrows):
                self.assertIsNone(asked(self, through, hall, [1, 2], [], 0, arrows))
        self.assertIsNone(through(hall, [1, 2], [], 2, [3, 4]))

    def test_each_other_list_is_no_view(self):
        for name, hall in small_ones().items():
            for places, ties in some_pictures(hall)[::10]:
                for box in range(len(hall.rests)):
                    right = all_views(hall, places, ties, box)
                    for arrows in itertools.product(range(-1, len(hall.ends)), repeat=len(places)):
                        if len(places) < 3 and list(arrows) not in right:
                            with self.subTest(name, places=places, ties=ties, box=box, arrows=arrows):
                                self.assertIsNone(through(hall, places, ties, box, list(arrows)))

    def test_a_broken_tie_is_no_view(self):
        hall = Hall(*turns(1, 5))
        self.assertIsNone(through(hall, [0, 0], [(0, 1, 2)], 0, [0, 0]))
        self.assertIsNone(through(hall, [0, 0], [(0, 1, 2)], 0, [2, 0]))

    def test_none_where_there_is_no_best_view(self):
        hall = Hall(*turns(1, 2))
        for arrows in views(hall, [0, 0], [], 0) + [[5, 5], []]:
            self.assertIsNone(through(hall, [0, 0], [], 0, arrows))


CALLS = {
    "views": (views, [0]),
    "best": (best, []),
    "through": (through, [0, [0]]),
}


class NoPictures(unittest.TestCase):
    def no_picture(self, hall, places, ties):
        for call, rest in CALLS.values():
            refused(self, NoPicture, call, hall, places, ties, *rest)

    def test_places_that_are_no_box(self):
        for hall in both_ways().values():
            for number in no_numbers(len(hall.rests)):
                for places in ([number], [0, number], [number, 0], [0, 0, number], [0, number, 0], [number] * 3):
                    self.no_picture(hall, places, [])

    def test_ties_to_no_place(self):
        for hall in (Hall(*stairs(3)), Hall(*turns(1, 40)), Hall(*turns(2, 2))):
            for places in ([0], [0, 0], [0, 0, 0]):
                rest = hall.rests[0]
                for number in no_numbers(len(places)):
                    for tie in ((number, 0, rest), (0, number, rest), (number, number, rest)):
                        self.no_picture(hall, places, [tie])
                        self.no_picture(hall, places, [(0, 0, rest), tie])

    def test_a_tie_without_places(self):
        self.no_picture(Hall(*still(1)), [], [(0, 0, 0)])
        self.no_picture(Hall(*still(1)), [], [(-1, -1, 0)])

    def test_ties_by_no_arrow(self):
        for hall in both_ways().values():
            for number in no_numbers(len(hall.ends)):
                self.no_picture(hall, [0], [(0, 0, number)])
                self.no_picture(hall, [0, 0], [(0, 0, hall.rests[0]), (0, 1, number)])

    def test_ties_by_arrows_that_lead_otherwise(self):
        for hall in (Hall(*stairs(3)), Hall(*turns(2, 2)), Hall(*maps([0, 1, 2]))):
            for places in itertools.product(range(len(hall.rests)), repeat=2):
                for i, j, arrow in itertools.product(range(2), range(2), range(len(hall.ends))):
                    if hall.ends[arrow] == (places[i], places[j]):
                        best(hall, list(places), [(i, j, arrow)])
                    else:
                        self.no_picture(hall, list(places), [(i, j, arrow)])

    def test_ties_that_are_no_three(self):
        hall = Hall(*still(1))
        for tie in ((), (0,), (0, 0), (0, 0, 0, 0)):
            self.no_picture(hall, [0], [tie])

    def test_three_places_and_four_ties_at_most(self):
        hall = Hall(*still(1))
        self.assertEqual(best(hall, [0] * 3, [(0, 1, 0)] * 4), (0, [0, 0, 0]))
        for count in (4, 5, 60):
            self.no_picture(hall, [0] * count, [])
            self.no_picture(hall, [0] * count, [(0, 1, 0)])
        for count in (5, 6, 60):
            self.no_picture(hall, [0] * 3, [(0, 1, 0)] * count)
            self.no_picture(hall, [0], [(0, 0, 0)] * count)


class TheOrderOfRefusals(unittest.TestCase):
    def test_no_box(self):
        for hall in both_ways().values():
            for number in no_numbers(len(hall.rests)):
                for places in ([], [0], [0, 0, 0]) if len(hall.ends) < 40 else ([], [0]):
                    refused(self, NoBox, views, hall, places, [], number)
                    refused(self, NoBox, through, hall, places, [], number, [hall.rests[0]] * len(places))
                    refused(self, NoBox, through, hall, places, [], number, [-1, THIRTY_FIGURES])

    def test_no_box_even_where_there_is_no_best_view(self):
        hall = Hall(*still(2))
        self.assertIsNone(best(hall, [0, 1], []))
        refused(self, NoBox, through, hall, [0, 1], [], 2, [0, 1])
        refused(self, NoBox, through, hall, [0, 1], [], -1, [])

    def test_no_picture_ahead_of_no_box(self):
        hall = Hall(*stairs(3))
        for number in no_numbers(3):
            for places, ties in (([3], []), ([0, -1], []), ([0] * 4, []), ([0], [(0, 1, 0)]), ([0], [(0, 0, 1)]),
                                 ([0], [(0, 0, 0)] * 5), ([0], [(0, 0)])):
                refused(self, NoPicture, views, hall, places, ties, number)
                refused(self, NoPicture, through, hall, places, ties, number, [0])


if __name__ == "__main__":
    unittest.main()
