import itertools
import unittest

from samples import NO_BALLOT, RING, boxes, mixed_boxes, numbers, table_of
from wishcount.changing import raised, renamed, turned, without
from wishcount.errors import NoBallot, WishError
from wishcount.orders import above
from wishcount.things import is_box

BOX = (3, ((4, 5, 6), (4, 5, 6), (99, 0, 50)))


def below_and_above(box, name):
    told = above(box)
    return ({pair[1] for pair in told if pair[0] == name}, {pair[0] for pair in told if pair[1] == name})


def back(names):
    return tuple([names.index(name) for name in range(len(names))])


def shuffled(source, many):
    return tuple(sorted(range(many), key=lambda name: (next(source), name)))


class Raised(unittest.TestCase):
    def test_written_out(self):
        self.assertEqual(raised(BOX, 0, 2, 3), (3, ((4, 5, 3), (4, 5, 6), (99, 0, 50))))
        self.assertEqual(raised(BOX, 1, 0, 1), (3, ((4, 5, 6), (3, 5, 6), (99, 0, 50))))
        self.assertEqual(raised(BOX, 2, 0, 49), (3, ((4, 5, 6), (4, 5, 6), (50, 0, 50))))
        self.assertEqual(raised((1, ((7,),)), 0, 0, 2), (1, ((5,),)))

    def test_by_0(self):
        for k in range(3):
            for name in range(3):
                self.assertEqual(raised(BOX, k, name, 0), BOX)

    def test_by_just_the_place_and_by_more(self):
        self.assertEqual(raised(BOX, 0, 1, 4), (3, ((4, 1, 6), (4, 5, 6), (99, 0, 50))))
        for by in (5, 6, 99, 1000):
            self.assertEqual(raised(BOX, 0, 1, by), (3, ((4, 0, 6), (4, 5, 6), (99, 0, 50))))
        self.assertEqual(raised(BOX, 2, 1, 1), BOX)
        self.assertEqual(raised(BOX, 2, 0, 99), (3, ((4, 5, 6), (4, 5, 6), (0, 0, 50))))

    def test_all_other_places_stay(self):
        for box in mixed_boxes(2, 4):
            for k in range(len(box[1])):
                for name in range(box[0]):
                    ballots = [list(ballot) for ballot in box[1]]
                    ballots[k][name] = max(ballots[k][name] - 3, 0)
                    told = raised(box, k, name, 3)
                    self.assertEqual(told, (box[0], tuple([tuple(ballot) for ballot in ballots])))
                    self.assertIs(is_box(told), True)

    def test_no_ballot_k(self):
        for box in boxes() + list(NO_BALLOT):
            length = len(box[1])
            for k in (length, length + 1, length + 100, -1, -length, -length - 1):
                if k != 0 or length == 0:
                    for taken in (NoBallot, WishError, ValueError):
                        with self.assertRaises(taken):
                            raised(box, k, 0, 1)

    def test_no_ballot_k_of_many_digits(self):
        for box in (BOX, (1, ((0,),)), (1, ()), (7, ())):
            for digits in (20, 4299, 4300, 4301, 5000, 20000):
                for k in (10 ** digits, -10 ** digits):
                    for by in (0, 1, 10 ** digits):
                        with self.assertRaises(NoBallot):
                            raised(box, k, 0, by)

    def test_by_of_many_digits(self):
        for digits in (20, 4300, 5000, 20000):
            self.assertEqual(raised(BOX, 2, 0, 10 ** digits), (3, ((4, 5, 6), (4, 5, 6), (0, 0, 50))))

    def test_no_ballot_by_0_too(self):
        with self.assertRaises(NoBallot):
            raised(BOX, 3, 0, 0)
        with self.assertRaises(NoBallot):
            raised((2, ()), 0, 0, 0)

    def test_the_last_ballot_is_there(self):
        self.assertEqual(raised((2, ((3, 3),)), 0, 1, 1), (2, ((3, 2),)))
        self.assertEqual(raised((1, ((9,),) * 40), 39, 0, 9), (1, ((9,),) * 39 + ((0,),)))

    def test_it_stands_above_whatever_it_stood_above_and_below_no_more(self):
        source = numbers(3)
        gained = 0
        for box in mixed_boxes(4, 30):
            for name in range(box[0]):
                higher = box
                for k in range(len(box[1])):
                    if next(source) % 3 == 0:
                        higher = raised(higher, k, name, next(source) % 6)
                before = below_and_above(box, name)
                after = below_and_above(higher, name)
                self.assertLessEqual(before[0], after[0], (box, name, higher))
                self.assertGreaterEqual(before[1], after[1], (box, name, higher))
                gained += before != after
        self.assertGreater(gained, 50)


class Turned(unittest.TestCase):
    def test_written_out(self):
        self.assertEqual(turned(BOX), (3, ((95, 94, 93), (95, 94, 93), (0, 99, 49))))
        self.assertEqual(turned((1, ((0,), (99,)))), (1, ((99,), (0,))))

    def test_no_ballot(self):
        for box in NO_BALLOT:
            self.assertEqual(turned(box), box)

    def test_twice_is_the_box(self):
        for box in boxes():
            self.assertEqual(turned(turned(box)), box)
            self.assertIs(is_box(turned(box)), True)

    def test_what_stood_above_stands_below(self):
        for box in boxes():
            told = sorted([(other, one) for one, other in above(box)])
            self.assertEqual(above(turned(box)), tuple(told), box)


class Without(unittest.TestCase):
    def test_the_first_a_middle_one_and_the_last(self):
        self.assertEqual(without(BOX, 0), (2, ((5, 6), (5, 6), (0, 50))))
        self.assertEqual(without(BOX, 1), (2, ((4, 6), (4, 6), (99, 50))))
        self.assertEqual(without(BOX, 2), (2, ((4, 5), (4, 5), (99, 0))))

    def test_down_to_one_name(self):
        self.assertEqual(without(without(BOX, 0), 0), (1, ((6,), (6,), (50,))))
        self.assertEqual(without(without(BOX, 2), 1), (1, ((4,), (4,), (99,))))
        self.assertEqual(without((2, ((0, 1),)), 0), (1, ((1,),)))
        self.assertEqual(without((2, ((0, 1),)), 1), (1, ((0,),)))

    def test_no_ballot(self):
        for many in range(2, 8):
            for name in range(many):
                self.assertEqual(without((many, ()), name), (many - 1, ()))

    def test_greater_ones_are_numbered_one_less(self):
        for box in boxes():
            for name in range(box[0] if box[0] > 1 else 0):
                told = without(box, name)
                self.assertIs(is_box(told), True)
                kept = [other for other in range(box[0]) if other != name]
                leads = table_of(box)
                self.assertEqual(table_of(told), [[leads[one][other] for other in kept] for one in kept])


class Renamed(unittest.TestCase):
    def test_written_out(self):
        self.assertEqual(renamed(BOX, (1, 2, 0)), (3, ((6, 4, 5), (6, 4, 5), (50, 99, 0))))
        self.assertEqual(renamed(BOX, (0, 2, 1)), (3, ((4, 6, 5), (4, 6, 5), (99, 50, 0))))
        self.assertEqual(renamed((1, ((8,),)), (0,)), (1, ((8,),)))

    def test_all_by_their_own_names(self):
        for box in boxes():
            self.assertEqual(renamed(box, tuple(range(box[0]))), box)

    def test_name_n_becomes_names_n(self):
        source = numbers(5)
        for box in boxes():
            names = shuffled(source, box[0])
            told = renamed(box, names)
            self.assertIs(is_box(told), True)
            self.assertEqual(len(told[1]), len(box[1]))
            for old, new in zip(box[1], told[1]):
                for name in range(box[0]):
                    self.assertEqual(new[names[name]], old[name])

    def test_and_back_is_the_box(self):
        for names in itertools.permutations(range(4)):
            for box in ((4, ()), (4, ((0, 1, 2, 3), (7, 7, 3, 99)))):
                self.assertEqual(renamed(renamed(box, names), back(names)), box)

    def test_what_stands_above_is_renamed_with_it(self):
        for names in itertools.permutations(range(3)):
            told = sorted([(names[one], names[other]) for one, other in above(RING)])
            self.assertEqual(above(renamed(RING, names)), tuple(told))


class SideBySide(unittest.TestCase):
    def doubled(self, source, box, extra):
        """The box with so many names more, which stand beside its last name on all ballots, and the names shuffled."""
        ballots = []
        for ballot in box[1]:
            wide = [3 * place for place in ballot[:-1]]
            near = [3 * ballot[-1] + next(source) % 3 for name in range(extra + 1)]
            # The others that share the last name's place must be alike to all that stand beside it, or to none.
            if 3 * ballot[-1] in wide:
                near = [3 * ballot[-1]] * (extra + 1)
            ballots.append(tuple(wide + near))
        many = box[0] + extra
        names = shuffled(source, many)
        return renamed((many, tuple(ballots)), names), names[box[0] - 1:]

    def test_when_one_of_them_goes_nothing_changes_for_the_others(self):
        source = numbers(6)
        seen = 0
        for extra in (1, 2):
            for base in mixed_boxes(7, 25, most_names=7 - extra, span_at_most=7):
                box, beside = self.doubled(source, base, extra)
                self.assertIs(is_box(box), True)
                for gone in beside:
                    kept = [name for name in range(box[0]) if name != gone]
                    told = [(kept[one], kept[other]) for one, other in above(without(box, gone))]
                    # Only among those side by side may anything change.
                    for one, other in itertools.permutations(kept, 2):
                        if one not in beside or other not in beside:
                            self.assertEqual((one, other) in told, (one, other) in above(box), (box, gone))
                            seen += (one, other) in told
        self.assertGreater(seen, 1000)


class Beyond(unittest.TestCase):
    def test_nothing_is_refused_for_lying_somewhat_beyond_a_bound(self):
        self.assertEqual(raised((2, ((0, 1),) * 41), 40, 1, 1), (2, ((0, 1),) * 40 + ((0, 0),)))
        self.assertEqual(raised((2, ((101, 1),)), 0, 0, 1), (2, ((100, 1),)))
        self.assertEqual(raised((2, ((0, 1),)), 0, 1, -1), (2, ((0, 2),)))
        self.assertEqual(turned((2, ((100, -1),))), (2, ((-1, 100),)))
        eight = (8, (tuple(range(8)),))
        self.assertEqual(without(eight, 7), (7, ((0, 1, 2, 3, 4, 5, 6),)))
        self.assertEqual(renamed(eight, (7, 6, 5, 4, 3, 2, 1, 0)), (8, ((7, 6, 5, 4, 3, 2, 1, 0),)))
        self.assertEqual(without((1, ((3,),)), 0), (0, ((),)))


if __name__ == "__main__":
    unittest.main()
