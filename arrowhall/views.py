"""Pictures in a hall, the views of them, and the best ones among these."""

from arrowhall.errors import NoPicture
from arrowhall.halls import between, check_box, is_below

MOST_PLACES = 3
MOST_TIES = 4


def check_picture(hall, places, ties):
    if len(places) > MOST_PLACES or len(ties) > MOST_TIES:
        raise NoPicture(f"a picture has at most {MOST_PLACES} places and {MOST_TIES} ties")
    for place, box in enumerate(places):
        if not is_below(box, len(hall.rests)):
            raise NoPicture(f"place {place} is no box of the hall")
    for number, tie in enumerate(ties):
        if not is_tie(hall, places, tie):
            raise NoPicture(f"tie {number} has no arrow from a place to a place")


def is_tie(hall, places, tie):
    if len(tie) != 3 or not is_below(tie[0], len(places)) or not is_below(tie[1], len(places)):
        return False
    return is_below(tie[2], len(hall.ends)) and hall.ends[tie[2]] == (places[tie[0]], places[tie[1]])


def keeps_tie(hall, arrows, tie):
    return hall.table[arrows[tie[0]]][tie[2]] == arrows[tie[1]]


# Each tie is asked as soon as both of its places have their arrows, so that few lists grow in vain.
def views_from(hall, places, ties, box):
    begun = [[]]
    for place, goal in enumerate(places):
        due = [tie for tie in ties if max(tie[0], tie[1]) == place]
        begun = grown(hall, begun, between(hall, box, goal), due)
    return begun


# Lists that stand in the order of point 9 grow in it, since the arrows rise.
def grown(hall, begun, arrows, due):
    longer = []
    for told in begun:
        for arrow in arrows:
            more = told + [arrow]
            if all([keeps_tie(hall, more, tie) for tie in due]):
                longer.append(more)
    return longer


def views(hall, places, ties, box):
    check_picture(hall, places, ties)
    check_box(hall, box)
    return views_from(hall, places, ties, box)


def made_behind(hall, arrow, arrows):
    return [hall.table[arrow][other] for other in arrows]


# Asked ahead of the views one by one: where it holds a box has at most as many views as the hall has arrows.
def has_as_many(hall, seen, box):
    return all([len(between(hall, start, box)) == len(lists) for start, lists in enumerate(seen)])


# Whatever an arrow makes when followed by a view's arrows is a view, so the view is best where
# from each box on the arrows to its own box make each view once.
def is_best(hall, seen, box, arrows):
    for start, lists in enumerate(seen):
        made = [made_behind(hall, arrow, arrows) for arrow in between(hall, start, box)]
        if sorted(made) != lists:
            return False
    return True


def best(hall, places, ties):
    check_picture(hall, places, ties)
    seen = [views_from(hall, places, ties, box) for box in range(len(hall.rests))]
    for box, lists in enumerate(seen):
        if has_as_many(hall, seen, box):
            for arrows in lists:
                if is_best(hall, seen, box, arrows):
                    return (box, arrows)
    return None


# What is no view needs no asking of its own: no arrow makes it.
def through(hall, places, ties, box, arrows):
    told = best(hall, places, ties)
    check_box(hall, box)
    if told is None:
        return None
    for arrow in between(hall, box, told[0]):
        if made_behind(hall, arrow, told[1]) == arrows:
            return arrow
    return None
