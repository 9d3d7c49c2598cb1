"""Arrows that undo each other, and boxes that are alike."""

from arrowhall.halls import between, check_arrow


def undo_each_other(hall, one, other):
    return hall.table[one][other] in hall.rests and hall.table[other][one] in hall.rests


# At most one arrow undoes an arrow, so the first that is found is the one.
def undone(hall, arrow):
    check_arrow(hall, arrow)
    for other in range(len(hall.ends)):
        if undo_each_other(hall, arrow, other):
            return other
    return None


def alike(hall, box, other):
    for arrow in between(hall, box, other):
        if undone(hall, arrow) is not None:
            return arrow
    return None
