import unittest

from samples import (
    ALL_ALIKE, HALF_ALIKE, NO_BALLOT, RING, RING_OVER_RING, ROUND, boxes, greatest_out, is_names, known_box, least_lead,
    others_than, small_boxes, some_of, strongest, table_of, unlike_pairs,
)
from wishcount.chains import chain, strength, wall

KNOWN_STRENGTHS = (
    (0, 11, 11, 15, 3), (5, 0, 11, 21, 3), (5, 13, 0, 13, 3), (5, 11, 11, 0, 3), (5, 11, 11, 17, 0),
)


def cases():
    for box in boxes() + small_boxes():
        leads = table_of(box)
        for one, other in unlike_pairs(box):
            yield box, leads, one, other


class Strength(unittest.TestCase):
    def test_written_out(self):
        self.assertEqual(strength((2, ((0, 1),) * 3 + ((1, 0),)), 0, 1), 2)
        self.assertEqual(strength((2, ((0, 1),) * 3 + ((1, 0),)), 1, 0), 0)
        self.assertEqual(table_of(RING), [[0, 6, -2], [-6, 0, 4], [2, -4, 0]])
        self.assertEqual(strength(RING, 0, 1), 6)
        self.assertEqual(strength(RING, 0, 2), 4)
        self.assertEqual(strength(RING, 1, 2), 4)
        self.assertEqual(strength(RING, 1, 0), 2)
        self.assertEqual(strength(RING, 2, 0), 2)
        self.assertEqual(strength(RING, 2, 1), 2)

    def test_a_way_round_that_is_stronger_than_the_lead_itself(self):
        box = (3, ((0, 1, 2),) * 3 + ((1, 2, 0), (2, 0, 1)))
        self.assertEqual(table_of(box), [[0, 3, 1], [-3, 0, 3], [-1, -3, 0]])
        self.assertEqual(strength(box, 0, 2), 3)
        self.assertEqual(chain(box, 0, 2), (0, 1, 2))

    def test_none_is_0(self):
        for box in NO_BALLOT + ALL_ALIKE:
            for one, other in unlike_pairs(box):
                self.assertEqual(strength(box, one, other), 0)
        self.assertEqual(strength(HALF_ALIKE, 1, 0), 0)
        for one in (3, 4, 5, 6):
            for other in (0, 1, 2):
                self.assertEqual(strength(RING_OVER_RING, one, other), 0)

    def test_rings(self):
        for box in ROUND[1:]:
            for one, other in unlike_pairs(box):
                self.assertEqual(strength(box, one, other), box[0] - 2)

    def test_known_election(self):
        box = known_box()
        for one, other in unlike_pairs(box):
            self.assertEqual(strength(box, one, other), KNOWN_STRENGTHS[one][other])

    def test_the_greatest_of_all_chains(self):
        for box, leads, one, other in cases():
            told = strength(box, one, other)
            self.assertEqual(told, strongest(box, leads, one, other), (box, one, other))
            self.assertIs(type(told), int)


class Chain(unittest.TestCase):
    def test_written_out(self):
        self.assertEqual(chain((2, ((0, 1),)), 0, 1), (0, 1))
        self.assertEqual(chain(RING, 0, 1), (0, 1))
        self.assertEqual(chain(RING, 0, 2), (0, 1, 2))
        self.assertEqual(chain(RING, 2, 1), (2, 0, 1))
        self.assertEqual(chain(ROUND[5], 3, 2), (3, 4, 5, 6, 0, 1, 2))

    def test_none_where_there_is_none(self):
        self.assertIsNone(chain((2, ((0, 1),)), 1, 0))
        for box in NO_BALLOT + ALL_ALIKE:
            for one, other in unlike_pairs(box):
                self.assertIsNone(chain(box, one, other))

    def test_of_all_pairs(self):
        for box, leads, one, other in cases():
            told = chain(box, one, other)
            if strongest(box, leads, one, other) == 0:
                self.assertIsNone(told, (box, one, other))
                continue
            self.assertTrue(is_names(told, box[0]), (box, one, other))
            self.assertEqual((told[0], told[-1]), (one, other), box)
            self.assertGreater(least_lead(leads, told), 0, (box, one, other))
            self.assertEqual(least_lead(leads, told), strongest(box, leads, one, other), (box, one, other))


class Wall(unittest.TestCase):
    def test_written_out(self):
        self.assertEqual(wall((2, ((0, 1),)), 0, 1), (0,))
        self.assertEqual(wall((2, ((0, 1),)), 1, 0), (1,))
        self.assertEqual(wall((2, ()), 1, 0), (1,))
        self.assertEqual(wall(RING, 0, 2), (0, 1))
        self.assertEqual(wall(RING, 1, 0), (1, 2))

    def test_of_all_pairs(self):
        for box, leads, one, other in cases():
            told = wall(box, one, other)
            self.assertTrue(is_names(told, box[0]), (box, one, other))
            self.assertEqual(told, tuple(sorted(told)), (box, one, other))
            self.assertIn(one, told, box)
            self.assertNotIn(other, told, box)
            self.assertLessEqual(greatest_out(leads, told), strongest(box, leads, one, other), (box, one, other))


class Both(unittest.TestCase):
    def test_the_chain_and_the_wall_have_the_same_strength(self):
        for box, leads, one, other in cases():
            told = chain(box, one, other)
            carried = 0 if told is None else least_lead(leads, told)
            passed = max(0, greatest_out(leads, wall(box, one, other)))
            self.assertEqual(carried, passed, (box, one, other))
            self.assertEqual(carried, strength(box, one, other), (box, one, other))

    def test_there_is_no_weaker_wall(self):
        for box, leads, one, other in cases():
            walls = [(one,) + some for some in some_of(others_than(box, (one, other)))]
            weakest = min([max(0, greatest_out(leads, inside)) for inside in walls])
            self.assertEqual(max(0, greatest_out(leads, wall(box, one, other))), weakest, (box, one, other))


class Beyond(unittest.TestCase):
    def test_nothing_is_refused_for_lying_somewhat_beyond_a_bound(self):
        forty_one = (2, ((0, 1),) * 41)
        self.assertEqual((strength(forty_one, 0, 1), chain(forty_one, 0, 1), wall(forty_one, 0, 1)), (41, (0, 1), (0,)))
        places = (2, ((-1, 0), (101, 102)))
        self.assertEqual((strength(places, 0, 1), chain(places, 1, 0), wall(places, 1, 0)), (2, None, (1,)))
        eight = (8, tuple([tuple([(name - turn) % 8 for name in range(8)]) for turn in range(8)]))
        self.assertEqual(strength(eight, 5, 4), 6)
        self.assertEqual(chain(eight, 5, 4), (5, 6, 7, 0, 1, 2, 3, 4))
        # Any wall does in an even ring: which of them is told is not promised.
        told = wall(eight, 5, 4)
        self.assertEqual((5 in told, 4 in told, greatest_out(table_of(eight), told)), (True, False, 6))


if __name__ == "__main__":
    unittest.main()
