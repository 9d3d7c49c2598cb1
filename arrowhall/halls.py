"""Halls: how they are told, turned round and asked."""

from arrowhall.errors import NoArrow, NoBox, NoHall

MOST_BOXES = 6
MOST_ARROWS = 40


# A number below nought would count from a list's end, so it is kept out here too.
def is_below(number, count):
    return 0 <= number < count


def check_counts(ends, rests):
    if not 1 <= len(rests) <= MOST_BOXES:
        raise NoHall(f"a hall has 1 to {MOST_BOXES} boxes")
    if not 1 <= len(ends) <= MOST_ARROWS:
        raise NoHall(f"a hall has 1 to {MOST_ARROWS} arrows")


def check_ends(ends, boxes):
    for arrow, pair in enumerate(ends):
        if len(pair) != 2 or not is_below(pair[0], boxes) or not is_below(pair[1], boxes):
            raise NoHall(f"arrow {arrow} doesn't lead from a box to a box")


def check_rests(ends, rests):
    for box, rest in enumerate(rests):
        if not is_below(rest, len(ends)) or ends[rest] != (box, box):
            raise NoHall(f"the rest of box {box} is no arrow from it to itself")


def check_form(table, arrows):
    if len(table) != arrows:
        raise NoHall("the table has one row for each arrow")
    for one, row in enumerate(table):
        if len(row) != arrows:
            raise NoHall(f"row {one} of the table has one entry for each arrow")


def check_table(ends, table):
    for one, row in enumerate(table):
        for other, made in enumerate(row):
            check_entry(ends, one, other, made)


def check_entry(ends, one, other, made):
    if ends[one][1] != ends[other][0]:
        if made != -1:
            raise NoHall(f"arrows {one} and {other} don't follow on one another")
    elif not is_below(made, len(ends)) or ends[made] != (ends[one][0], ends[other][1]):
        raise NoHall(f"arrows {one} and {other} make no arrow that leads as they do")


def check_beside_rests(ends, rests, table):
    for arrow, pair in enumerate(ends):
        if table[rests[pair[0]]][arrow] != arrow or table[arrow][rests[pair[1]]] != arrow:
            raise NoHall(f"with a rest, arrow {arrow} doesn't make itself")


def check_threes(table):
    for one, row in enumerate(table):
        for other, made in enumerate(row):
            if made != -1:
                check_thirds(table, one, other, made)


def check_thirds(table, one, other, made):
    for third, later in enumerate(table[other]):
        if later != -1 and table[made][third] != table[one][later]:
            raise NoHall(f"arrows {one}, {other} and {third} make two arrows")


class Hall:
    # The order matters: each check reads only by numbers that the checks ahead of it have let by.
    def __init__(self, ends, rests, table):
        check_counts(ends, rests)
        check_ends(ends, len(rests))
        check_rests(ends, rests)
        check_form(table, len(ends))
        check_table(ends, table)
        check_beside_rests(ends, rests, table)
        check_threes(table)
        self.ends = list(ends)
        self.rests = list(rests)
        self.table = [list(row) for row in table]


def check_arrow(hall, arrow):
    if not is_below(arrow, len(hall.ends)):
        raise NoArrow(f"{arrow} is no arrow of the hall")


def check_box(hall, box):
    if not is_below(box, len(hall.rests)):
        raise NoBox(f"{box} is no box of the hall")


def turned(hall):
    ends = [(pair[1], pair[0]) for pair in hall.ends]
    table = [column(hall.table, arrow) for arrow in range(len(hall.ends))]
    return Hall(ends, hall.rests, table)


def column(table, other):
    return [row[other] for row in table]


def then(hall, one, other):
    check_arrow(hall, one)
    check_arrow(hall, other)
    made = hall.table[one][other]
    return None if made == -1 else made


def between(hall, box, other):
    check_box(hall, box)
    check_box(hall, other)
    return [arrow for arrow, pair in enumerate(hall.ends) if pair == (box, other)]
