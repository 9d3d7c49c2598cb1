"""What is promised over the whole program: its names, and that nothing is changed, kept or shared."""

import importlib
import inspect
import unittest

from arrowhall.errors import ArrowError
from arrowhall.halls import Hall, between, then, turned
from arrowhall.readings import changes, is_reading, out_of
from arrowhall.rests import change_of, thing_of
from arrowhall.sendings import is_sending, read_through
from arrowhall.undoing import alike, undone
from arrowhall.views import best, through, views
from tests.helper import asked, both_ways, samples, taken, unmoved

INTERFACE = {
    "halls": {"Hall": "ends rests table", "turned": "hall", "then": "hall one other", "between": "hall box other"},
    "undoing": {"undone": "hall arrow", "alike": "hall box other"},
    "views": {"views": "hall places ties box", "best": "hall places ties", "through": "hall places ties box arrows"},
    "readings": {"is_reading": "hall counts maps", "out_of": "hall box", "changes": "hall one other"},
    "rests": {"change_of": "hall box reading thing", "thing_of": "hall box reading change"},
    "sendings": {"is_sending": "hall other boxes arrows", "read_through": "hall other boxes arrows reading"},
}


class Names(unittest.TestCase):
    def test_everything_is_there_under_its_name(self):
        for module, calls in INTERFACE.items():
            held = importlib.import_module("arrowhall." + module)
            for name, arguments in calls.items():
                with self.subTest(module, name=name):
                    call = getattr(held, name)
                    self.assertEqual(call.__module__, "arrowhall." + module)
                    self.assertEqual(list(inspect.signature(call).parameters), arguments.split())

    def test_arguments_may_be_told_by_name(self):
        ends, rests, table = samples()["two stairs"]
        hall = Hall(ends=ends, rests=rests, table=table)
        self.assertEqual(then(hall=hall, one=0, other=1), 1)
        self.assertEqual(best(hall=hall, places=[0, 1], ties=[]), (0, [0, 1]))
        self.assertEqual(through(hall=hall, places=[1], ties=[], box=0, arrows=[1]), 1)
        self.assertEqual(change_of(hall=hall, box=1, reading=unmoved(hall, 2), thing=1), [[], [1]])


def calls_on(hall):
    """Every call of the interface with what it is handed, right ones alone."""
    last = len(hall.rests) - 1
    rest = hall.rests[last]
    reading = unmoved(hall, 2)
    change = [[1] * len(between(hall, last, other)) for other in range(last + 1)]
    same = (list(range(last + 1)), list(range(len(hall.ends))))
    return [
        (turned, hall), (then, hall, rest, rest), (between, hall, last, last),
        (undone, hall, rest), (alike, hall, last, last),
        (views, hall, [last, last], [(0, 1, rest)], last), (best, hall, [last, last], [(0, 1, rest)]),
        (through, hall, [last, last], [(0, 1, rest)], last, [rest, rest]),
        (is_reading, hall, reading[0], reading[1]), (out_of, hall, last), (changes, hall, reading, reading),
        (change_of, hall, last, reading, 1), (thing_of, hall, last, reading, change),
        (is_sending, hall, hall, same[0], same[1]), (read_through, hall, hall, same[0], same[1], reading),
    ]


class PointOne(unittest.TestCase):
    def test_what_is_handed_in_stays_and_what_is_told_is_the_askers_own(self):
        for name, hall in both_ways().items():
            for call, *args in calls_on(hall):
                with self.subTest(name, call=call.__name__):
                    asked(self, call, *args)

    def test_nothing_hangs_on_what_was_asked_ahead(self):
        told = both_ways()
        first = {name: [taken(call(*args)) for call, *args in calls_on(hall)] for name, hall in told.items()}
        for name in reversed(list(told)):
            again = [taken(call(*args)) for call, *args in reversed(calls_on(told[name]))]
            with self.subTest(name):
                self.assertEqual(again, first[name][::-1])

    def test_a_refusal_leaves_nothing_behind(self):
        hall = Hall(*samples()["three stairs, mixed"])
        before = [taken(call(*args)) for call, *args in calls_on(hall)]
        for call, *args in ((views, hall, [9], [], 0), (best, hall, [0], [(0, 0, 99)]), (out_of, hall, 3),
                            (changes, hall, ([], []), ([], [])), (change_of, hall, 0, unmoved(hall, 1), 1),
                            (thing_of, hall, 0, unmoved(hall, 1), []),
                            (read_through, hall, hall, [], [], unmoved(hall, 1))):
            with self.assertRaises(ArrowError):
                call(*args)
        self.assertEqual([taken(call(*args)) for call, *args in calls_on(hall)], before)


if __name__ == "__main__":
    unittest.main()
