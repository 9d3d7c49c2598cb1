"""Changes from the reading out of a box, and the things to which they change the rest of the box."""

from arrowhall.errors import NoThing
from arrowhall.halls import between, check_box, is_below
from arrowhall.readings import check_reading, is_change, out_of


def change_of(hall, box, reading, thing):
    check_box(hall, box)
    check_reading(hall, reading)
    if not is_below(thing, reading[0][box]):
        raise NoThing(f"{thing} is no thing of the reading at box {box}")
    return [led_to(hall, box, other, reading[1], thing) for other in range(len(hall.rests))]


def led_to(hall, box, other, maps, thing):
    return [maps[arrow][thing] for arrow in between(hall, box, other)]


def thing_of(hall, box, reading, change):
    check_box(hall, box)
    check_reading(hall, reading)
    if not is_change(hall, out_of(hall, box), reading, change):
        raise NoThing(f"this is no change from the reading out of box {box} to the reading")
    return change[box][between(hall, box, box).index(hall.rests[box])]
