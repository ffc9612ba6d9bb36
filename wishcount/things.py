"""What a ballot is and what a box is, asked of any thing."""

MOST_NAMES = 7
MOST_BALLOTS = 40
LAST_PLACE = 99


def is_whole(thing):
    # Python counts truths among its ints; here they are no whole numbers.
    return isinstance(thing, int) and not isinstance(thing, bool)


def is_whole_within(thing, least, most):
    return is_whole(thing) and least <= thing and thing <= most


def is_ballot(thing, many):
    # many is taken as it is given, also somewhat beyond its bound: only is_box judges how many names there are.
    if not isinstance(thing, tuple) or len(thing) != many:
        return False
    return all([is_whole_within(place, 0, LAST_PLACE) for place in thing])


def is_box(thing):
    if not isinstance(thing, tuple) or len(thing) != 2:
        return False
    many = thing[0]
    return is_whole_within(many, 1, MOST_NAMES) and are_ballots(thing[1], many)


def are_ballots(thing, many):
    if not isinstance(thing, tuple) or len(thing) > MOST_BALLOTS:
        return False
    return all([is_ballot(ballot, many) for ballot in thing])
