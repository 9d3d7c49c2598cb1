"""Readings of a hall by things, and the changes from one reading to another one."""

from arrowhall.errors import NoReading
from arrowhall.halls import between, is_below

MOST_THINGS = 40


def are_below(numbers, count):
    return all([is_below(number, count) for number in numbers])


def followed(first, second):
    return [second[thing] for thing in first]


def has_form(hall, counts, maps):
    if len(counts) != len(hall.rests) or len(maps) != len(hall.ends):
        return False
    if not are_below(counts, MOST_THINGS + 1):
        return False
    for pair, things in zip(hall.ends, maps):
        if len(things) != counts[pair[0]] or not are_below(things, counts[pair[1]]):
            return False
    return True


def keeps_rests(hall, counts, maps):
    return all([maps[rest] == list(range(counts[box])) for box, rest in enumerate(hall.rests)])


def keeps_table(hall, maps):
    for one, row in enumerate(hall.table):
        for other, made in enumerate(row):
            if made != -1 and maps[made] != followed(maps[one], maps[other]):
                return False
    return True


def is_reading(hall, counts, maps):
    return has_form(hall, counts, maps) and keeps_rests(hall, counts, maps) and keeps_table(hall, maps)


def check_reading(hall, reading):
    if len(reading) != 2 or not is_reading(hall, reading[0], reading[1]):
        raise NoReading("this is no reading of the hall")


def out_of(hall, box):
    things = [between(hall, box, other) for other in range(len(hall.rests))]
    counts = [len(arrows) for arrows in things]
    maps = [led_behind(hall, things, arrow) for arrow in range(len(hall.ends))]
    return (counts, maps)


def led_behind(hall, things, arrow):
    pair = hall.ends[arrow]
    return [things[pair[1]].index(hall.table[first][arrow]) for first in things[pair[0]]]


def is_change(hall, one, other, change):
    if [len(things) for things in change] != one[0]:
        return False
    if not all([are_below(things, count) for things, count in zip(change, other[0])]):
        return False
    for arrow, pair in enumerate(hall.ends):
        if followed(one[1][arrow], change[pair[1]]) != followed(change[pair[0]], other[1][arrow]):
            return False
    return True


def changes(hall, one, other):
    check_reading(hall, one)
    check_reading(hall, other)
    if not has_room(one[0], other[0]):
        return []
    begun = [[[None] * count for count in one[0]]]
    for box, count in enumerate(one[0]):
        for thing in range(count):
            begun = told_on(hall, one, other, begun, box, thing)
    return begun


# Asked first, since a box without room, if it comes late, would let no end of changes begin in vain.
def has_room(counts, others):
    return all([other > 0 or count == 0 for count, other in zip(counts, others)])


# Changes that stand in the order of point 13 are told on in it, since the goals rise.
def told_on(hall, one, other, begun, box, thing):
    later = []
    for change in begun:
        if change[box][thing] is not None:
            later.append(change)
        else:
            for goal in range(other[0][box]):
                later.extend(told_along(hall, one, other, change, box, thing, goal))
    return later


# What a thing is changed to settles it for each thing to which an arrow leads it, itself among them by the rest.
# The answer is a list of one change, or of none where that breaks what is settled.
def told_along(hall, one, other, change, box, thing, goal):
    more = [list(things) for things in change]
    for arrow, pair in enumerate(hall.ends):
        if pair[0] == box and not settle(more[pair[1]], one[1][arrow][thing], other[1][arrow][goal]):
            return []
    return [more]


def settle(things, thing, goal):
    if things[thing] is None:
        things[thing] = goal
    return things[thing] == goal
