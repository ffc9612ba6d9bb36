import copy
import unittest

from wishcount.tables import beats, lead, table

ALIKE = (3, ((0, 0, 1), (5, 5, 5), (2, 1, 1), (0, 3, 0)))
RING = (3, ((0, 1, 2), (1, 2, 0), (2, 0, 1)))
DOUBLED = (2, ((0, 1), (0, 1), (0, 1), (9, 4)))
SEVEN = (7, ((0, 1, 2, 3, 4, 5, 6), (99, 0, 99, 0, 99, 0, 99), (6, 5, 4, 3, 2, 1, 0), (1, 1, 1, 1, 1, 1, 1)))
FORTY = (2, ((0, 99),) * 23 + ((99, 0),) * 16 + ((50, 50),))
BOXES = (
    ALIKE, RING, DOUBLED, SEVEN, FORTY,
    (1, ()), (7, ()), (1, ((0,),)), (1, ((3,),) * 40), (2, ((0, 0),)), (2, ((99, 0),)),
)


def counted(box, one, other):
    told = 0
    for ballot in box[1]:
        if ballot[one] < ballot[other]:
            told += 1
        elif ballot[one] > ballot[other]:
            told -= 1
    return told


def pairs(box):
    return [(one, other) for one in range(box[0]) for other in range(box[0])]


class Lead(unittest.TestCase):
    def test_written_out(self):
        self.assertEqual(lead((2, ((0, 1),)), 0, 1), 1)
        self.assertEqual(lead((2, ((0, 1),)), 1, 0), -1)
        self.assertEqual(lead(DOUBLED, 0, 1), 2)
        self.assertEqual(lead(DOUBLED, 1, 0), -2)
        self.assertEqual(lead(RING, 0, 1), 1)
        self.assertEqual(lead(RING, 1, 2), 1)
        self.assertEqual(lead(RING, 2, 0), 1)
        self.assertEqual(lead(FORTY, 0, 1), 7)

    def test_how_far_ahead_counts_for_nothing(self):
        self.assertEqual(lead((2, ((0, 99), (1, 0), (1, 0))), 0, 1), -1)

    def test_names_put_alike(self):
        self.assertEqual(lead((2, ((4, 4),)), 0, 1), 0)
        self.assertEqual(lead(ALIKE, 0, 1), 0)
        self.assertEqual(lead(ALIKE, 0, 2), 0)
        self.assertEqual(lead(ALIKE, 1, 2), 0)
        self.assertEqual(lead((2, ((4, 4), (4, 4), (4, 5))), 0, 1), 1)

    def test_no_ballot(self):
        for many in range(1, 8):
            for one, other in pairs((many, ())):
                self.assertEqual(lead((many, ()), one, other), 0)

    def test_doubled_ballots_count_each(self):
        self.assertEqual(lead((2, ((0, 1),) * 40), 0, 1), 40)
        self.assertEqual(lead((2, ((0, 1),) * 40), 1, 0), -40)

    def test_as_counted_of_all_pairs(self):
        for box in BOXES:
            for one, other in pairs(box):
                self.assertEqual(lead(box, one, other), counted(box, one, other), (box, one, other))

    def test_over_itself(self):
        for box in BOXES:
            for one in range(box[0]):
                self.assertEqual(lead(box, one, one), 0)

    def test_turned_about(self):
        for box in BOXES:
            for one, other in pairs(box):
                self.assertEqual(lead(box, one, other), -lead(box, other, one))

    def test_is_a_whole_number(self):
        for box in BOXES:
            for one, other in pairs(box):
                self.assertIs(type(lead(box, one, other)), int)


class Table(unittest.TestCase):
    def test_written_out(self):
        self.assertEqual(table(RING), ((0, 1, -1), (-1, 0, 1), (1, -1, 0)))
        self.assertEqual(table(DOUBLED), ((0, 2), (-2, 0)))
        self.assertEqual(table((3, ((0, 1, 2), (0, 1, 2), (5, 5, 0)))), ((0, 2, 1), (-2, 0, 1), (-1, -1, 0)))

    def test_no_ballot_and_one_name(self):
        self.assertEqual(table((1, ())), ((0,),))
        self.assertEqual(table((1, ((7,),))), ((0,),))
        self.assertEqual(table((3, ())), ((0, 0, 0),) * 3)

    def test_row_one_place_other_is_the_lead(self):
        for box in BOXES:
            told = table(box)
            self.assertIs(type(told), tuple)
            self.assertEqual(len(told), box[0])
            for row in told:
                self.assertIs(type(row), tuple)
                self.assertEqual(len(row), box[0])
            for one, other in pairs(box):
                self.assertEqual(told[one][other], lead(box, one, other))
                self.assertIs(type(told[one][other]), int)


class Beats(unittest.TestCase):
    def test_lead_above_0(self):
        self.assertIs(beats((2, ((0, 1),)), 0, 1), True)
        self.assertIs(beats(DOUBLED, 0, 1), True)
        self.assertIs(beats(FORTY, 0, 1), True)

    def test_lead_0(self):
        self.assertIs(beats((2, ()), 0, 1), False)
        self.assertIs(beats((2, ((3, 3),)), 0, 1), False)
        self.assertIs(beats((2, ((0, 1), (1, 0))), 0, 1), False)
        self.assertIs(beats(DOUBLED, 0, 0), False)

    def test_lead_below_0(self):
        self.assertIs(beats((2, ((0, 1),)), 1, 0), False)
        self.assertIs(beats(DOUBLED, 1, 0), False)

    def test_of_all_pairs(self):
        for box in BOXES:
            for one, other in pairs(box):
                self.assertIs(beats(box, one, other), counted(box, one, other) > 0)


class Whole(unittest.TestCase):
    def test_what_is_handed_in_is_the_same_afterwards_and_the_same_is_told_again(self):
        for box in BOXES:
            before = copy.deepcopy(box)
            told = table(box)
            for one, other in pairs(box):
                self.assertEqual(lead(box, one, other), lead(box, one, other))
                self.assertIs(beats(box, one, other), beats(box, one, other))
            self.assertEqual(table(box), told)
            self.assertEqual(repr(box), repr(before))

    def test_nothing_is_refused_for_lying_somewhat_beyond_a_bound(self):
        self.assertEqual(lead((2, ((0, 1),) * 41), 0, 1), 41)
        self.assertEqual(table((2, ((-1, 0), (-1, 100), (101, 100)))), ((0, 1), (-1, 0)))
        self.assertIs(beats((2, ((-2, -1),)), 0, 1), True)
        eight = (8, (tuple(range(8)),))
        self.assertEqual(lead(eight, 0, 7), 1)
        self.assertEqual(table(eight), tuple([tuple([counted(eight, a, b) for b in range(8)]) for a in range(8)]))


if __name__ == "__main__":
    unittest.main()
