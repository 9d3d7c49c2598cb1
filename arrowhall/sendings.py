"""Sendings of a hall into another one, and readings read through them."""

from arrowhall.errors import NoSending
from arrowhall.readings import are_below, check_reading


def has_form(hall, other, boxes, arrows):
    if len(boxes) != len(hall.rests) or len(arrows) != len(hall.ends):
        return False
    return are_below(boxes, len(other.rests)) and are_below(arrows, len(other.ends))


def keeps_ends(hall, other, boxes, arrows):
    for pair, arrow in zip(hall.ends, arrows):
        if other.ends[arrow] != (boxes[pair[0]], boxes[pair[1]]):
            return False
    return True


def keeps_rests(hall, other, boxes, arrows):
    return all([arrows[rest] == other.rests[box] for rest, box in zip(hall.rests, boxes)])


def keeps_table(hall, other, arrows):
    for one, row in enumerate(hall.table):
        for two, made in enumerate(row):
            if made != -1 and arrows[made] != other.table[arrows[one]][arrows[two]]:
                return False
    return True


def is_sending(hall, other, boxes, arrows):
    if not has_form(hall, other, boxes, arrows) or not keeps_ends(hall, other, boxes, arrows):
        return False
    return keeps_rests(hall, other, boxes, arrows) and keeps_table(hall, other, arrows)


# An arrow may be told for several, so each takes a list of its own.
def read_through(hall, other, boxes, arrows, reading):
    if not is_sending(hall, other, boxes, arrows):
        raise NoSending("this is no sending of the one hall into the other")
    check_reading(other, reading)
    counts = [reading[0][box] for box in boxes]
    maps = [list(reading[1][arrow]) for arrow in arrows]
    return (counts, maps)
