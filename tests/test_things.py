import copy
import unittest

from wishcount.things import is_ballot, is_box

NO_WHOLE_NUMBERS = (True, False, None, "", "0", "name", (), (0,), [], [0])


def nested(thing, depth, as_list):
    for level in range(depth):
        thing = [thing] if as_list else (thing,)
    return thing


def formless():
    things = [0, 1, 2, -1, 100, True, False, None, "", "ab", (), [], (None,), [None], ("", ()), ((), ()), ([], [])]
    for depth in (1, 2, 5, 30, 33):
        for core in (0, True, None, "a", (), [], (1, ()), (1, ((0,),))):
            things.append(nested(core, depth, False))
            things.append(nested(core, depth, True))
    # One place alone is a ballot of one name, so it is not among these.
    return [thing for thing in things if thing != (0,)]


class Ballots(unittest.TestCase):
    def yes(self, thing, many):
        self.assertIs(is_ballot(thing, many), True, (thing, many))

    def no(self, thing, many):
        self.assertIs(is_ballot(thing, many), False, (thing, many))

    def test_ordinary_ballots(self):
        self.yes((0, 1, 2), 3)
        self.yes((5, 5, 5), 3)
        self.yes((40, 3, 99, 0), 4)

    def test_one_name_and_seven(self):
        self.yes((0,), 1)
        self.yes((99,), 1)
        self.yes((0, 1, 2, 3, 4, 5, 6), 7)
        self.yes((99,) * 7, 7)

    def test_places_at_the_edges_and_beyond(self):
        for at in range(3):
            for place, told in ((0, True), (99, True), (-1, False), (100, False), (10 ** 30, False), (-10 ** 30, False)):
                ballot = [7, 7, 7]
                ballot[at] = place
                self.assertIs(is_ballot(tuple(ballot), 3), told, ballot)

    def test_too_few_places_and_too_many(self):
        for many in range(1, 8):
            self.no((0,) * (many - 1), many)
            self.yes((0,) * many, many)
            self.no((0,) * (many + 1), many)

    def test_no_whole_number_as_a_place(self):
        for wrong in NO_WHOLE_NUMBERS:
            self.no((wrong,), 1)
            self.no((wrong, 1, 2), 3)
            self.no((0, wrong, 2), 3)
            self.no((0, 1, wrong), 3)

    def test_a_list_is_no_ballot(self):
        self.no([0], 1)
        self.no([0, 1, 2], 3)
        self.no([], 1)

    def test_a_text_is_no_ballot(self):
        self.no("a", 1)
        self.no("012", 3)

    def test_things_of_no_such_form(self):
        for thing in formless():
            for many in range(1, 8):
                self.no(thing, many)

    def test_a_box_is_no_ballot(self):
        self.no((2, ((0, 1),)), 2)

    def test_many_beyond_its_bound_is_not_refused(self):
        self.yes((0,) * 8, 8)
        self.no((0,) * 7, 8)
        self.no((0,), 0)


class Boxes(unittest.TestCase):
    def yes(self, thing):
        self.assertIs(is_box(thing), True, thing)

    def no(self, thing):
        self.assertIs(is_box(thing), False, thing)

    def test_ordinary_boxes(self):
        self.yes((3, ((0, 1, 2), (2, 1, 0), (0, 0, 0))))
        self.yes((2, ((0, 1), (0, 1))))

    def test_one_name_and_seven(self):
        for many in range(1, 8):
            self.yes((many, ()))
            self.yes((many, ((99,) * many, (0,) * many)))

    def test_no_names_and_eight(self):
        for many in (-1, 0, 8, 9, 10 ** 30):
            self.no((many, ()))
        self.no((0, ((),)))
        self.no((8, ((0,) * 8,)))

    def test_no_ballot_and_forty_and_forty_one(self):
        for many in (1, 4, 7):
            self.yes((many, ()))
            self.yes((many, ((0,) * many,) * 40))
            self.no((many, ((0,) * many,) * 41))

    def test_numbers_of_many_digits(self):
        # The things are not shown by these: Python refuses to write them out.
        for number in (10 ** 5000, -10 ** 5000):
            self.assertIs(is_ballot((number,), 1), False)
            self.assertIs(is_ballot((0,), number), False)
            self.assertIs(is_box((number, ())), False)
            self.assertIs(is_box((1, ((number,),))), False)

    def test_places_at_the_edges_and_beyond(self):
        self.yes((2, ((0, 99), (99, 0))))
        for wrong in (-1, 100):
            self.no((2, ((0, wrong),)))
            self.no((2, ((wrong, 0),)))
            self.no((2, ((0, 1), (wrong, 0))))

    def test_no_whole_number_as_many(self):
        for wrong in NO_WHOLE_NUMBERS:
            self.no((wrong, ()))
            self.no((wrong, ((0,),)))

    def test_no_whole_number_as_a_place(self):
        for wrong in NO_WHOLE_NUMBERS:
            self.no((1, ((wrong,),)))
            self.no((2, ((0, 1), (0, wrong))))

    def test_a_list_on_each_level(self):
        self.no([2, ((0, 1),)])
        self.no((2, [(0, 1)]))
        self.no((2, []))
        self.no((2, ([0, 1],)))
        self.no((2, ((0, 1), [0, 1])))
        self.no((2, (([0], 1),)))
        self.no(([2], ((0, 1),)))

    def test_ballots_with_too_few_places_and_too_many(self):
        for wrong in ((), (0,), (0, 1, 2)):
            self.no((2, (wrong,)))
            self.no((2, (wrong, (0, 1))))
            self.no((2, ((0, 1),) * 39 + (wrong,)))

    def test_pairs_too_short_and_too_long(self):
        self.no(())
        self.no((2,))
        self.no((((0, 1),),))
        self.no((2, ((0, 1),), ()))
        self.no((2, (), None))

    def test_a_pair_turned_about(self):
        self.no((((0, 1),), 2))
        self.no(((), 1))

    def test_no_tuple_of_ballots(self):
        for wrong in (0, 1, True, None, "", "a"):
            self.no((1, wrong))
            self.no((1, (wrong,)))
        self.no((1, (0,)))
        self.no((1, ((0,), 0)))

    def test_things_of_no_such_form(self):
        self.no((0,))
        for thing in formless():
            self.no(thing)
            self.no((1, (thing,)))
            if type(thing) is not int:
                self.no((1, ((thing,),)))


class Unchanged(unittest.TestCase):
    def test_what_is_handed_in_is_the_same_afterwards_and_the_same_is_told_again(self):
        things = formless() + [
            (0, 1), [0, 1], (2, ((0, 1),)), [2, ((0, 1),)], (2, [(0, 1)]), (2, ([0, 1],)), (2, ((1, 0), [0, 1])),
        ]
        for thing in things:
            before = copy.deepcopy(thing)
            told = (is_ballot(thing, 2), is_box(thing))
            self.assertEqual(repr(thing), repr(before))
            self.assertEqual((is_ballot(thing, 2), is_box(thing)), told)
            self.assertEqual((is_ballot(before, 2), is_box(before)), told)


if __name__ == "__main__":
    unittest.main()
