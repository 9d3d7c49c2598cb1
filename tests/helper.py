"""Halls for the tests, told as (ends, rests, table), readings of them, and how an answer or a refusal is asked for."""

import copy
import itertools

from arrowhall.errors import ArrowError
from arrowhall.halls import Hall, turned

THIRTY_FIGURES = 10 ** 30 - 1


def tell(arrows, rests, make):
    """A hall of arrows (from, to, mark), where make tells the arrow of two that follow on one another."""
    ends = [(arrow[0], arrow[1]) for arrow in arrows]
    table = [[arrows.index(make(one, other)) if one[1] == other[0] else -1 for other in arrows] for one in arrows]
    return ends, [arrows.index(rest) for rest in rests], table


def still(boxes):
    """Rests alone."""
    arrows = [(box, box, 0) for box in range(boxes)]
    return tell(arrows, arrows, lambda one, other: one)


def stairs(boxes):
    """One arrow from each box to each that isn't below it."""
    pairs = itertools.combinations_with_replacement(range(boxes), 2)
    arrows = [(low, high, 0) for low, high in pairs]
    return tell(arrows, [(box, box, 0) for box in range(boxes)], lambda one, other: (one[0], other[1], 0))


def turns(boxes, count):
    """From each box to each as many arrows as count; two of them add up, as turns of a wheel do."""
    arrows = list(itertools.product(range(boxes), range(boxes), range(count)))
    rests = [(box, box, 0) for box in range(boxes)]
    return tell(arrows, rests, lambda one, other: (one[0], other[1], (one[2] + other[2]) % count))


def map_arrows(sizes):
    """All maps from each of some heaps of things to each."""
    arrows = []
    for box, size in enumerate(sizes):
        for goal, goals in enumerate(sizes):
            arrows += [(box, goal, images) for images in itertools.product(range(goals), repeat=size)]
    return arrows


def maps(sizes):
    rests = [(box, box, tuple(range(size))) for box, size in enumerate(sizes)]

    def make(one, other):
        return (one[0], other[1], tuple(other[2][image] for image in one[2]))

    return tell(map_arrows(sizes), rests, make)


def first_stays():
    """One box: of any two arrows that aren't the rest, the first one is made."""
    arrows = [(0, 0, mark) for mark in range(3)]
    return tell(arrows, arrows[:1], lambda one, other: one if one[2] else other)


def forked(made_first, made_last):
    """Four boxes in a row; arrows 4, 5, 6 step on, and from the first box to the last one lead 9 and 10.

    made_first is what 4 and 5 make, then 6; made_last is 4, then what 5 and 6 make.
    """
    ends = [(0, 0), (1, 1), (2, 2), (3, 3), (0, 1), (1, 2), (2, 3), (0, 2), (1, 3), (0, 3), (0, 3)]
    table = [[-1] * len(ends) for _ in ends]
    for arrow, (start, goal) in enumerate(ends):
        table[start][arrow] = arrow
        table[arrow][goal] = arrow
    table[4][5] = 7
    table[5][6] = 8
    table[7][6] = made_first
    table[4][8] = made_last
    return ends, [0, 1, 2, 3], table


def beside(told, other):
    """Two halls made into one, with no arrow from the one to the other."""
    ends, rests, table = told
    boxes, arrows = len(rests), len(ends)
    all_ends = ends + [(start + boxes, goal + boxes) for start, goal in other[0]]
    upper = [row + [-1] * len(other[0]) for row in table]
    lower = [[-1] * arrows + [-1 if made == -1 else made + arrows for made in row] for row in other[2]]
    return all_ends, rests + [rest + arrows for rest in other[1]], upper + lower


def mixed(told, step):
    """The same hall with its arrows numbered otherwise; step has no divisor in common with their count."""
    ends, rests, table = told
    count = len(ends)
    new = [(arrow * step + 1) % count for arrow in range(count)]
    old = [new.index(arrow) for arrow in range(count)]
    new_table = [[-1 if table[one][other] == -1 else new[table[one][other]] for other in old] for one in old]
    return [ends[arrow] for arrow in old], [new[rest] for rest in rests], new_table


def samples():
    return {
        "one rest": still(1),
        "two rests": still(2),
        "six rests": still(6),
        "two stairs": stairs(2),
        "three stairs, mixed": mixed(stairs(3), 5),
        "six stairs": stairs(6),
        "a wheel of three": turns(1, 3),
        "a wheel of four, mixed": mixed(turns(1, 4), 3),
        "a wheel of forty": turns(1, 40),
        "six alike": turns(6, 1),
        "two alike, two ways, mixed": mixed(turns(2, 2), 5),
        "two alike, ten ways": turns(2, 10),
        "maps of two": maps([2]),
        "maps of one and two": maps([1, 2]),
        "maps of none, one and two, mixed": mixed(maps([0, 1, 2]), 7),
        "maps of two and two, mixed": mixed(maps([2, 2]), 3),
        "the first stays": first_stays(),
        "the first stays, mixed": mixed(first_stays(), 2),
        "forked": forked(9, 9),
        "a wheel beside stairs": beside(turns(1, 2), stairs(2)),
    }


def is_hall(ends, rests, table):
    """Points 2 and 3 asked in full, of numbers that lie near the right ones."""
    boxes, arrows = range(len(rests)), range(len(ends))
    if not (1 <= len(boxes) <= 6 and 1 <= len(arrows) <= 40):
        return False
    if any(end not in boxes for pair in ends for end in pair):
        return False
    if any(rest not in arrows or ends[rest] != (box, box) for box, rest in enumerate(rests)):
        return False
    if [len(row) for row in table] != [len(arrows)] * len(arrows):
        return False
    made = {(one, other): table[one][other] for one in arrows for other in arrows}
    for (one, other), arrow in made.items():
        (start, middle), (again, goal) = ends[one], ends[other]
        if middle == again and (arrow not in arrows or ends[arrow] != (start, goal)):
            return False
        if middle != again and arrow != -1:
            return False
    if any(made[rests[ends[one][0]], one] != one or made[one, rests[ends[one][1]]] != one for one in arrows):
        return False
    threes = [(one, other, third) for one, other, third in itertools.product(arrows, repeat=3)
              if ends[one][1] == ends[other][0] and ends[other][1] == ends[third][0]]
    return all(made[made[one, other], third] == made[one, made[other, third]] for one, other, third in threes)


def fields(hall):
    return copy.deepcopy((hall.ends, hall.rests, hall.table))


def lists_of(hall):
    return [hall.ends, hall.rests, hall.table] + list(hall.table)


def halls():
    return {name: Hall(*told) for name, told in samples().items()}


def both_ways():
    """The halls, and each of them turned round."""
    told = halls()
    return {**told, **{name + ", turned round": turned(hall) for name, hall in told.items()}}


def small_ones():
    return {name: hall for name, hall in both_ways().items() if len(hall.ends) <= 8}


def arrows_from(hall, box, other):
    return [arrow for arrow, pair in enumerate(hall.ends) if pair == (box, other)]


def reads(hall, counts, maps):
    """Point 11 asked in full, thing by thing."""
    if len(counts) != len(hall.rests) or any(not 0 <= count <= 40 for count in counts):
        return False
    if len(maps) != len(hall.ends):
        return False
    for (start, goal), things in zip(hall.ends, maps):
        if len(things) != counts[start] or any(not 0 <= thing < counts[goal] for thing in things):
            return False
    for box, rest in enumerate(hall.rests):
        if any(maps[rest][thing] != thing for thing in range(counts[box])):
            return False
    for one, other in itertools.product(range(len(hall.ends)), repeat=2):
        made = hall.table[one][other]
        if hall.ends[one][1] == hall.ends[other][0]:
            for thing in range(counts[hall.ends[one][0]]):
                if maps[made][thing] != maps[other][maps[one][thing]]:
                    return False
    return True


def arrows_out(hall, box):
    """The reading out of a box by the words of point 12."""
    things = {}
    for other in range(len(hall.rests)):
        for number, arrow in enumerate(arrows_from(hall, box, other)):
            things[arrow] = number
    counts = [len(arrows_from(hall, box, other)) for other in range(len(hall.rests))]
    maps = []
    for arrow, (start, _) in enumerate(hall.ends):
        maps.append([things[hall.table[first][arrow]] for first in arrows_from(hall, box, start)])
    return counts, maps


def unmoved(hall, count):
    """As many things at each box, and each arrow leaves them as they are."""
    return [count] * len(hall.rests), [list(range(count)) for _ in hall.ends]


def side_by_side(hall, one, other):
    """At each box the things of the first reading, and then those of the second one."""
    counts = [first + second for first, second in zip(one[0], other[0])]
    maps = [first + [thing + one[0][goal] for thing in second]
            for (_, goal), first, second in zip(hall.ends, one[1], other[1])]
    return counts, maps


def some_readings(hall):
    told = [arrows_out(hall, box) for box in range(len(hall.rests))] + [unmoved(hall, count) for count in (0, 1, 2)]
    if max(told[0][0]) < 40:
        told.append(side_by_side(hall, told[0], unmoved(hall, 1)))
    return told


def all_readings(hall, most):
    """Every reading with at most as many things at each box, found by trying all."""
    found = []
    for counts in itertools.product(range(most + 1), repeat=len(hall.rests)):
        choices = [itertools.product(range(counts[goal]), repeat=counts[start]) for start, goal in hall.ends]
        for maps in itertools.product(*choices):
            told = list(counts), [list(things) for things in maps]
            if reads(hall, *told):
                found.append(told)
    return found


def wrong_readings(hall):
    """Tuples of two lists that are no reading of the hall, each by one fault."""
    counts, lists = unmoved(hall, 2)
    rest = hall.rests[-1]
    told = [
        (counts[:-1], lists),
        (counts + [2], lists),
        (counts, lists[:-1]),
        (counts, lists + [[0, 1]]),
        (counts, lists[:rest] + [[1, 0]] + lists[rest + 1:]),
        unmoved(hall, 41),
        ([], []),
    ]
    for number in (-1, 1, 3, THIRTY_FIGURES):
        told.append((counts[:-1] + [number], lists))
    for things in ([], [0], [0, 1, 1], [0, 2], [-1, 1], [0, -1], [THIRTY_FIGURES, 1]):
        told.append((counts, lists[:rest] + [things] + lists[rest + 1:]))
    return told


def is_change(hall, one, other, change):
    """Point 13 asked in full, thing by thing."""
    if len(change) != len(hall.rests) or [len(things) for things in change] != one[0]:
        return False
    for box, things in enumerate(change):
        if any(not 0 <= thing < other[0][box] for thing in things):
            return False
    for arrow, (start, goal) in enumerate(hall.ends):
        for thing in range(one[0][start]):
            if change[goal][one[1][arrow][thing]] != other[1][arrow][change[start][thing]]:
                return False
    return True


def ways(one, other):
    """In how many ways a thing of the second reading can be told for each thing of the first one."""
    count = 1
    for first, second in zip(one[0], other[0]):
        count *= second ** first
    return count


def all_changes(hall, one, other):
    """Every change, found by trying all ways, in the order of point 13."""
    boxes = [itertools.product(range(second), repeat=first) for first, second in zip(one[0], other[0])]
    tried = [[list(things) for things in way] for way in itertools.product(*boxes)]
    return sorted(way for way in tried if is_change(hall, one, other, way))


def no_numbers(count):
    """Whole numbers that number none of count things: below nought, one beyond, far beyond."""
    return [-1, -2, -count, -count - 1, -THIRTY_FIGURES, count, count + 1, count + 60, THIRTY_FIGURES]


def taken(value):
    """What a value holds now, to be compared later."""
    if isinstance(value, Hall):
        return taken([value.ends, value.rests, value.table])
    if isinstance(value, (list, tuple)):
        return [value.__class__.__name__] + [taken(part) for part in value]
    return value


def lists_within(value):
    if isinstance(value, Hall):
        return lists_of(value)
    found = [value] if isinstance(value, list) else []
    if isinstance(value, (list, tuple)):
        for part in value:
            found += lists_within(part)
    return found


def asked(case, call, *args):
    """The answer of a call, once it is sure that what is handed in stays as it was, and that the answer is the
    asker's own: no two lists of it are one, none is one that was handed in, and spoiling it spoils nothing."""
    before = taken(args)
    told = call(*args)
    case.assertEqual(taken(args), before)
    own = [id(each) for each in lists_within(told)]
    case.assertEqual(len(set(own)), len(own))
    case.assertFalse(set(own) & {id(each) for arg in args for each in lists_within(arg)})
    right = copy.deepcopy(told)
    for each in lists_within(told):
        each.clear()
        each.append(77)
    case.assertEqual(taken(call(*args)), taken(right))
    case.assertEqual(taken(args), before)
    return right


def refused(case, error, call, *args):
    """The call is refused with this very class, and what is handed in stays as it was."""
    before = taken(args)
    with case.assertRaises(ArrowError) as caught:
        call(*args)
    case.assertIs(type(caught.exception), error)
    case.assertEqual(taken(args), before)


def refused_in_either_place(case, error, call, hall, count):
    """The call on a hall and two numbers is refused where one of them, or both, number none of count things."""
    for number in no_numbers(count):
        for right in range(count):
            refused(case, error, call, hall, number, right)
            refused(case, error, call, hall, right, number)
        refused(case, error, call, hall, number, number)
