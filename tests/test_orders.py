import unittest

from samples import (
    ALL_ALIKE, HALF_ALIKE, NO_BALLOT, ONE_NAME, RING, RING_OVER_RING, ROUND, above_of, all_crowds, boxes, is_names,
    known_box, small_boxes, table_of,
)
from wishcount.orders import above, best, crowd, firsts

STRAIGHT = (4, ((2, 0, 3, 1),) * 2 + ((0, 0, 0, 0), (9, 8, 7, 6)))
ALL_BOXES = boxes() + small_boxes()


class Above(unittest.TestCase):
    def test_written_out(self):
        self.assertEqual(above((2, ((0, 1),))), ((0, 1),))
        self.assertEqual(above((2, ((5, 1),))), ((1, 0),))
        self.assertEqual(above(RING), ((0, 1), (0, 2), (1, 2)))
        self.assertEqual(above(STRAIGHT), ((0, 2), (1, 0), (1, 2), (1, 3), (3, 0), (3, 2)))
        self.assertEqual(above(known_box()), (
            (0, 1), (0, 2), (0, 3), (1, 3), (2, 1), (2, 3), (4, 0), (4, 1), (4, 2), (4, 3)))

    def test_none_above_none(self):
        for box in ONE_NAME + NO_BALLOT + ALL_ALIKE + ROUND:
            self.assertEqual(above(box), ())

    def test_ring_over_ring(self):
        told = [(one, other) for one in range(7) for other in range(7) if one // 3 < other // 3]
        self.assertEqual(above(RING_OVER_RING), tuple(told))

    def test_against_all_chains(self):
        for box in ALL_BOXES:
            told = above(box)
            self.assertEqual(told, above_of(box), box)
            self.assertEqual(told, tuple(sorted(told)), box)
            self.assertIs(type(told), tuple)
            self.assertTrue(all([len(pair) == 2 and is_names(pair, box[0]) for pair in told]), box)

    def test_it_never_goes_round(self):
        for box in ALL_BOXES:
            told = above(box)
            for one, other in told:
                self.assertNotIn((other, one), told, box)
                for name in range(box[0]):
                    if (other, name) in told:
                        self.assertIn((one, name), told, box)


class Firsts(unittest.TestCase):
    def test_written_out(self):
        self.assertEqual(firsts((2, ((5, 1),))), (1,))
        self.assertEqual(firsts(RING), (0,))
        self.assertEqual(firsts(STRAIGHT), (1,))
        self.assertEqual(firsts(HALF_ALIKE), (0, 2))
        self.assertEqual(firsts(RING_OVER_RING), (0, 1, 2))
        self.assertEqual(firsts(known_box()), (4,))

    def test_all_where_none_is_above(self):
        for box in ONE_NAME + NO_BALLOT + ALL_ALIKE + ROUND:
            self.assertEqual(firsts(box), tuple(range(box[0])))

    def test_those_that_none_is_above(self):
        for box in ALL_BOXES:
            told = firsts(box)
            lower = [pair[1] for pair in above_of(box)]
            self.assertEqual(told, tuple([name for name in range(box[0]) if name not in lower]), box)
            self.assertTrue(is_names(told, box[0]), box)
            self.assertGreaterEqual(len(told), 1, box)


class Best(unittest.TestCase):
    def test_written_out(self):
        self.assertEqual(best((2, ((5, 1),))), 1)
        self.assertEqual(best((2, ((0, 1),))), 0)
        self.assertEqual(best(STRAIGHT), 1)
        self.assertEqual(best((3, ((2, 1, 0), (2, 1, 0), (0, 0, 5)))), 2)

    def test_none(self):
        for box in NO_BALLOT[1:] + ALL_ALIKE[1:] + ROUND + (RING, HALF_ALIKE, RING_OVER_RING, known_box()):
            self.assertIsNone(best(box), box)

    def test_one_name_alone(self):
        for box in ONE_NAME + NO_BALLOT[:1] + ALL_ALIKE[:1]:
            self.assertEqual(best(box), 0)
            self.assertIs(type(best(box)), int)

    def test_the_name_that_beats_all_others(self):
        for box in ALL_BOXES:
            leads = table_of(box)
            winners = [name for name in range(box[0])
                       if all([leads[name][other] > 0 for other in range(box[0]) if other != name])]
            self.assertEqual(best(box), winners[0] if winners else None, box)

    def test_none_is_above_it_and_it_is_above_all(self):
        seen = 0
        for box in ALL_BOXES:
            name = best(box)
            if name is not None:
                seen += 1
                self.assertIs(type(name), int)
                self.assertEqual(firsts(box), (name,), box)
                for other in range(box[0]):
                    self.assertEqual((name, other) in above(box), name != other, box)
        self.assertGreater(seen, 20)


class Crowd(unittest.TestCase):
    def test_written_out(self):
        self.assertEqual(crowd((2, ((5, 1),))), (1,))
        self.assertEqual(crowd((2, ((1, 1),))), (0, 1))
        self.assertEqual(crowd(RING), (0, 1, 2))
        self.assertEqual(crowd(STRAIGHT), (1,))
        self.assertEqual(crowd(RING_OVER_RING), (0, 1, 2))
        self.assertEqual(crowd((7, tuple([ballot[::-1] for ballot in RING_OVER_RING[1]]))), (4, 5, 6))
        self.assertEqual(crowd(HALF_ALIKE), (0, 1, 2))
        self.assertEqual(crowd(known_box()), (0, 1, 2, 3, 4))

    def test_one_name_alone(self):
        for box in ONE_NAME:
            self.assertEqual(crowd(box), (0,))

    def test_all_names_where_none_beats_another(self):
        for box in NO_BALLOT + ALL_ALIKE:
            self.assertEqual(crowd(box), tuple(range(box[0])))

    def test_the_least_of_all_crowds(self):
        sizes = {}
        for box in ALL_BOXES:
            told = crowd(box)
            self.assertEqual(told, min(all_crowds(box), key=len), box)
            self.assertTrue(is_names(told, box[0]), box)
            sizes[len(told), box[0]] = True
        # Crowds between one name and all of them must have been among those asked.
        self.assertGreater(len([pair for pair in sizes if 1 < pair[0] < pair[1]]), 5)

    def test_none_but_names_of_the_crowd_are_firsts(self):
        for box in ALL_BOXES:
            self.assertEqual(set(firsts(box)) - set(crowd(box)), set(), box)


class Beyond(unittest.TestCase):
    def test_nothing_is_refused_for_lying_somewhat_beyond_a_bound(self):
        many_ballots = (2, ((5, 1),) * 41)
        places = (2, ((101, 100), (0, -1)))
        for box in (many_ballots, places):
            self.assertEqual((above(box), firsts(box), best(box), crowd(box)), (((1, 0),), (1,), 1, (1,)))
        eight = (8, (tuple(range(8)),))
        self.assertEqual(above(eight), tuple([(one, other) for one in range(8) for other in range(one + 1, 8)]))
        self.assertEqual((firsts(eight), best(eight), crowd(eight)), ((0,), 0, (0,)))
        self.assertEqual((above((0, ())), firsts((0, ())), best((0, ())), crowd((0, ()))), ((), (), None, ()))


if __name__ == "__main__":
    unittest.main()
