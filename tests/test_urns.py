import itertools
import unittest

from samples import mixed_boxes, numbers, table_of
from wishcount.errors import NoBallot, WishError
from wishcount.orders import above
from wishcount.tables import table
from wishcount.things import is_box
from wishcount.urns import Urn


def urn_with(many, ballots):
    urn = Urn(many)
    for ballot in ballots:
        urn.put(ballot)
    return urn


class Urns(unittest.TestCase):
    def holds(self, urn, many, ballots):
        self.assertEqual(urn.box(), (many, tuple(sorted(ballots))))
        self.assertEqual(urn.counted(), table((many, tuple(ballots))))
        self.assertEqual(urn.counted(), tuple([tuple(row) for row in table_of((many, ballots))]))

    def test_empty_at_first(self):
        for many in range(1, 8):
            urn = Urn(many)
            self.assertEqual(urn.box(), (many, ()))
            self.assertEqual(urn.counted(), ((0,) * many,) * many)

    def test_put_and_take_tell_none(self):
        urn = Urn(2)
        self.assertIsNone(urn.put((0, 1)))
        self.assertIsNone(urn.take((0, 1)))

    def test_written_out(self):
        urn = urn_with(2, [(0, 1), (0, 1), (5, 3), (0, 0)])
        self.assertEqual(urn.box(), (2, ((0, 0), (0, 1), (0, 1), (5, 3))))
        self.assertEqual(urn.counted(), ((0, 1), (-1, 0)))
        urn.take((5, 3))
        self.assertEqual(urn.box(), (2, ((0, 0), (0, 1), (0, 1))))
        self.assertEqual(urn.counted(), ((0, 2), (-2, 0)))

    def test_of_doubled_ballots_one_goes(self):
        urn = urn_with(2, [(0, 1)] * 3)
        for left in (2, 1, 0):
            urn.take((0, 1))
            self.holds(urn, 2, [(0, 1)] * left)
        with self.assertRaises(NoBallot):
            urn.take((0, 1))
        self.holds(urn, 2, [])

    def test_take_of_a_ballot_that_is_not_in(self):
        for ballots in ([], [(0, 1)], [(0, 1), (0, 1), (2, 2)]):
            urn = urn_with(2, ballots)
            # The same order of the names is not the same ballot.
            for ballot in ((1, 0), (0, 2), (1, 2), (99, 99)):
                for taken in (NoBallot, WishError, ValueError):
                    with self.assertRaises(taken):
                        urn.take(ballot)
                self.holds(urn, 2, ballots)

    def test_take_of_a_ballot_with_places_of_many_digits(self):
        urn = urn_with(2, [(0, 1)])
        for place in (10 ** 5000, -10 ** 5000):
            with self.assertRaises(NoBallot):
                urn.take((0, place))
            self.holds(urn, 2, [(0, 1)])

    def test_a_ballot_that_was_taken_may_be_put_again(self):
        urn = urn_with(1, [(4,)])
        urn.take((4,))
        urn.put((4,))
        self.holds(urn, 1, [(4,)])

    def test_in_the_order_of_tuples(self):
        ballots = [(2, 0, 0), (10, 0, 0), (0, 99, 1), (0, 9, 5), (2, 0, 0), (0, 9, 4)]
        told = ((0, 9, 4), (0, 9, 5), (0, 99, 1), (2, 0, 0), (2, 0, 0), (10, 0, 0))
        for order in itertools.permutations(ballots, 6):
            self.assertEqual(urn_with(3, order).box(), (3, told))

    def test_asking_changes_nothing(self):
        urn = urn_with(2, [(5, 3), (0, 1)])
        before = (urn.box(), urn.counted())
        for turn in range(3):
            self.assertEqual((urn.box(), urn.counted()), before)
        urn.put((0, 0))
        self.assertEqual(before, ((2, ((0, 1), (5, 3))), ((0, 0), (0, 0))))

    def test_two_urns_do_not_touch_each_other(self):
        first = Urn(2)
        second = Urn(2)
        third = Urn(3)
        first.put((0, 1))
        self.holds(second, 2, [])
        with self.assertRaises(NoBallot):
            second.take((0, 1))
        third.put((0, 1, 2))
        second.put((1, 0))
        first.take((0, 1))
        self.holds(first, 2, [])
        self.holds(second, 2, [(1, 0)])
        self.holds(third, 3, [(0, 1, 2)])

    def test_put_and_take_in_mixed_order_count_as_those_that_are_left(self):
        source = numbers(8)
        refused = 0
        for many in range(1, 8):
            urn = Urn(many)
            left = []
            for step in range(120):
                ballot = tuple([next(source) % 2 for name in range(many)])
                if next(source) % 2 == 0 and len(left) < 40:
                    urn.put(ballot)
                    left.append(ballot)
                elif ballot in left:
                    urn.take(ballot)
                    left.remove(ballot)
                else:
                    refused += 1
                    self.assertRaises(NoBallot, urn.take, ballot)
                self.holds(urn, many, left)
                self.assertIs(is_box(urn.box()), True)
        self.assertGreater(refused, 50)

    def test_in_whatever_order(self):
        source = numbers(9)
        for box in mixed_boxes(10, 6):
            ballots = sorted(box[1], key=lambda ballot: (next(source), ballot))
            urn = urn_with(box[0], ballots + ballots)
            for ballot in sorted(ballots, key=lambda ballot: (next(source), ballot)):
                urn.take(ballot)
            self.holds(urn, box[0], box[1])
            self.assertEqual(above(urn.box()), above(box))

    def test_nothing_is_refused_for_lying_somewhat_beyond_a_bound(self):
        self.holds(urn_with(2, [(0, 1)] * 41), 2, [(0, 1)] * 41)
        self.holds(urn_with(2, [(100, -1)]), 2, [(100, -1)])
        self.holds(urn_with(8, [(0,) * 8]), 8, [(0,) * 8])
        self.assertEqual(Urn(0).box(), (0, ()))


if __name__ == "__main__":
    unittest.main()
