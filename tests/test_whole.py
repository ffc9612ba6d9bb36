"""What is promised over the whole program: things stay as they are, answers are plain, and the names are there."""

import importlib
import inspect
import unittest

from samples import boxes, is_plain, unlike_pairs
from wishcount.changing import raised, renamed, turned, without
from wishcount.chains import chain, strength, wall
from wishcount.errors import NoBallot
from wishcount.orders import above, best, crowd, firsts
from wishcount.tables import beats, lead, table
from wishcount.things import is_ballot, is_box
from wishcount.urns import Urn

INTERFACE = {
    "things": {"is_ballot": ["thing", "many"], "is_box": ["thing"]},
    "tables": {"lead": ["box", "one", "other"], "table": ["box"], "beats": ["box", "one", "other"]},
    "chains": {name: ["box", "one", "other"] for name in ("strength", "chain", "wall")},
    "orders": {name: ["box"] for name in ("above", "firsts", "best", "crowd")},
    "changing": {
        "raised": ["box", "k", "name", "by"], "turned": ["box"], "without": ["box", "name"], "renamed": ["box", "names"],
    },
    "urns": {"Urn": ["many"]},
}
METHODS = {"put": ["self", "ballot"], "take": ["self", "ballot"], "counted": ["self"], "box": ["self"]}
TRUTHS = (is_ballot, is_box, beats)


def questions(box):
    """All that can be asked of a box: each function with what is handed to it."""
    asked = [(function, (box,)) for function in (is_box, table, above, firsts, best, crowd, turned)]
    for one, other in unlike_pairs(box):
        asked += [(function, (box, one, other)) for function in (lead, beats, strength, chain, wall)]
    for ballot in box[1][:3]:
        asked.append((is_ballot, (ballot, box[0])))
    for k in range(min(len(box[1]), 3)):
        asked += [(raised, (box, k, name, by)) for name in range(box[0]) for by in (0, 1, 200)]
    if box[0] > 1:
        asked += [(without, (box, name)) for name in range(box[0])]
    asked.append((renamed, (box, tuple(range(1, box[0])) + (0,))))
    return asked


def parts(thing):
    return [part for piece in thing for part in parts(piece)] if type(thing) is tuple else [thing]


class Whole(unittest.TestCase):
    def test_what_is_handed_in_is_the_same_afterwards_and_the_same_is_told_again(self):
        for box in boxes():
            asked = questions(box)
            before = repr([things for function, things in asked])
            told = [repr(function(*things)) for function, things in asked]
            self.assertEqual(repr([things for function, things in asked]), before)
            self.assertEqual([repr(function(*things)) for function, things in reversed(asked)], told[::-1])

    def test_answers_are_plain(self):
        for box in boxes():
            for function, things in questions(box):
                told = function(*things)
                self.assertTrue(is_plain(told), (function, things))
                if function in TRUTHS:
                    self.assertIs(type(told), bool, (function, things))
                else:
                    self.assertNotIn(bool, [type(part) for part in parts(told)], (function, things))

    def test_an_urn_hands_out_plain_things_and_keeps_what_it_was_given(self):
        for box in boxes():
            before = repr(box)
            urn = Urn(box[0])
            for ballot in box[1]:
                urn.put(ballot)
            for told in (urn.box(), urn.counted()):
                self.assertTrue(is_plain(told), box)
                self.assertNotIn(bool, [type(part) for part in parts(told)], box)
            self.assertEqual((repr(urn.box()), repr(urn.counted())), (repr(urn.box()), repr(urn.counted())))
            self.assertRaises(NoBallot, urn.take, (55,) * box[0])
            for ballot in box[1]:
                urn.take(ballot)
            self.assertEqual(urn.box(), (box[0], ()))
            self.assertEqual(repr(box), before)


class Interface(unittest.TestCase):
    def test_names_and_arguments(self):
        for module, names in INTERFACE.items():
            for name, arguments in names.items():
                found = getattr(importlib.import_module(f"wishcount.{module}"), name)
                self.assertEqual(list(inspect.signature(found).parameters), arguments, name)

    def test_methods_of_an_urn(self):
        for name, arguments in METHODS.items():
            self.assertEqual(list(inspect.signature(getattr(Urn, name)).parameters), arguments, name)

    def test_no_ballot_is_one_and_the_same_everywhere(self):
        for module in ("changing", "urns"):
            self.assertIs(importlib.import_module(f"wishcount.{module}").NoBallot, NoBallot)


if __name__ == "__main__":
    unittest.main()
