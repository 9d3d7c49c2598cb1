"""Halls for the tests, told as (ends, rests, table), and how a refusal is asked for."""

import copy
import itertools

from arrowhall.errors import ArrowError
from arrowhall.halls import Hall

THIRTY_FIGURES = 10 ** 30 - 1


def tell(arrows, rests, make):
    """A hall of arrows (from, to, mark), where make tells the arrow of two that follow on one another."""
    ends = [(arrow[0], arrow[1]) for arrow in arrows]
    table = [[arrows.index(make(one, other)) if one[1] == other[0] else -1 for other in arrows] for one in arrows]
    return ends, [arrows.index(rest) for rest in rests], table


def still(boxes):
    """Rests alone."""
    arrows = [(box, box, 0) for box in range(boxes)]
    return tell(arrows, arrows, lambda one, other: one)


def stairs(boxes):
    """One arrow from each box to each that isn't below it."""
    pairs = itertools.combinations_with_replacement(range(boxes), 2)
    arrows = [(low, high, 0) for low, high in pairs]
    return tell(arrows, [(box, box, 0) for box in range(boxes)], lambda one, other: (one[0], other[1], 0))


def turns(boxes, count):
    """From each box to each as many arrows as count; two of them add up, as turns of a wheel do."""
    arrows = list(itertools.product(range(boxes), range(boxes), range(count)))
    rests = [(box, box, 0) for box in range(boxes)]
    return tell(arrows, rests, lambda one, other: (one[0], other[1], (one[2] + other[2]) % count))


def map_arrows(sizes):
    """All maps from each of some heaps of things to each."""
    arrows = []
    for box, size in enumerate(sizes):
        for goal, goals in enumerate(sizes):
            arrows += [(box, goal, images) for images in itertools.product(range(goals), repeat=size)]
    return arrows


def maps(sizes):
    rests = [(box, box, tuple(range(size))) for box, size in enumerate(sizes)]

    def make(one, other):
        return (one[0], other[1], tuple(other[2][image] for image in one[2]))

    return tell(map_arrows(sizes), rests, make)


def first_stays():
    """One box: of any two arrows that aren't the rest, the first one is made."""
    arrows = [(0, 0, mark) for mark in range(3)]
    return tell(arrows, arrows[:1], lambda one, other: one if one[2] else other)


def forked(made_first, made_last):
    """Four boxes in a row; arrows 4, 5, 6 step on, and from the first box to the last one lead 9 and 10.

    made_first is what 4 and 5 make, then 6; made_last is 4, then what 5 and 6 make.
    """
    ends = [(0, 0), (1, 1), (2, 2), (3, 3), (0, 1), (1, 2), (2, 3), (0, 2), (1, 3), (0, 3), (0, 3)]
    table = [[-1] * len(ends) for _ in ends]
    for arrow, (start, goal) in enumerate(ends):
        table[start][arrow] = arrow
        table[arrow][goal] = arrow
    table[4][5] = 7
    table[5][6] = 8
    table[7][6] = made_first
    table[4][8] = made_last
    return ends, [0, 1, 2, 3], table


def beside(told, other):
    """Two halls made into one, with no arrow from the one to the other."""
    ends, rests, table = told
    boxes, arrows = len(rests), len(ends)
    all_ends = ends + [(start + boxes, goal + boxes) for start, goal in other[0]]
    upper = [row + [-1] * len(other[0]) for row in table]
    lower = [[-1] * arrows + [-1 if made == -1 else made + arrows for made in row] for row in other[2]]
    return all_ends, rests + [rest + arrows for rest in other[1]], upper + lower


def mixed(told, step):
    """The same hall with its arrows numbered otherwise; step has no divisor in common with their count."""
    ends, rests, table = told
    count = len(ends)
    new = [(arrow * step + 1) % count for arrow in range(count)]
    old = [new.index(arrow) for arrow in range(count)]
    new_table = [[-1 if table[one][other] == -1 else new[table[one][other]] for other in old] for one in old]
    return [ends[arrow] for arrow in old], [new[rest] for rest in rests], new_table


def samples():
    return {
        "one rest": still(1),
        "two rests": still(2),
        "six rests": still(6),
        "two stairs": stairs(2),
        "three stairs, mixed": mixed(stairs(3), 5),
        "six stairs": stairs(6),
        "a wheel of three": turns(1, 3),
        "a wheel of four, mixed": mixed(turns(1, 4), 3),
        "a wheel of forty": turns(1, 40),
        "six alike": turns(6, 1),
        "two alike, two ways, mixed": mixed(turns(2, 2), 5),
        "two alike, ten ways": turns(2, 10),
        "maps of two": maps([2]),
        "maps of one and two": maps([1, 2]),
        "maps of none, one and two, mixed": mixed(maps([0, 1, 2]), 7),
        "maps of two and two, mixed": mixed(maps([2, 2]), 3),
        "the first stays": first_stays(),
        "the first stays, mixed": mixed(first_stays(), 2),
        "forked": forked(9, 9),
        "a wheel beside stairs": beside(turns(1, 2), stairs(2)),
    }


def is_hall(ends, rests, table):
    """Points 2 and 3 asked in full, of numbers that lie near the right ones."""
    boxes, arrows = range(len(rests)), range(len(ends))
    if not (1 <= len(boxes) <= 6 and 1 <= len(arrows) <= 40):
        return False
    if any(end not in boxes for pair in ends for end in pair):
        return False
    if any(rest not in arrows or ends[rest] != (box, box) for box, rest in enumerate(rests)):
        return False
    if [len(row) for row in table] != [len(arrows)] * len(arrows):
        return False
    made = {(one, other): table[one][other] for one in arrows for other in arrows}
    for (one, other), arrow in made.items():
        (start, middle), (again, goal) = ends[one], ends[other]
        if middle == again and (arrow not in arrows or ends[arrow] != (start, goal)):
            return False
        if middle != again and arrow != -1:
            return False
    if any(made[rests[ends[one][0]], one] != one or made[one, rests[ends[one][1]]] != one for one in arrows):
        return False
    threes = [(one, other, third) for one, other, third in itertools.product(arrows, repeat=3)
              if ends[one][1] == ends[other][0] and ends[other][1] == ends[third][0]]
    return all(made[made[one, other], third] == made[one, made[other, third]] for one, other, third in threes)


def fields(hall):
    return copy.deepcopy((hall.ends, hall.rests, hall.table))


def lists_of(hall):
    return [hall.ends, hall.rests, hall.table] + list(hall.table)


def halls():
    return {name: Hall(*told) for name, told in samples().items()}


def no_numbers(count):
    """Whole numbers that number none of count things: below nought, one beyond, far beyond."""
    return [-1, -2, -count, -count - 1, -THIRTY_FIGURES, count, count + 1, count + 60, THIRTY_FIGURES]


def refused(case, error, call, *args):
    """The call is refused with this very class."""
    with case.assertRaises(ArrowError) as caught:
        call(*args)
    case.assertIs(type(caught.exception), error)


def refused_in_either_place(case, error, call, hall, count):
    """The call on a hall and two numbers is refused where one of them, or both, number none of count things."""
    for number in no_numbers(count):
        for right in range(count):
            refused(case, error, call, hall, number, right)
            refused(case, error, call, hall, right, number)
        refused(case, error, call, hall, number, number)
