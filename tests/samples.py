"""Boxes to ask about, and what the document's words say of them, taken from all chains, walls and crowds there are."""

import itertools

ONE_NAME = ((1, ()), (1, ((0,),)), (1, ((99,), (3,), (3,))))
NO_BALLOT = tuple([(many, ()) for many in range(1, 8)])
ALL_ALIKE = tuple([(many, ((5,) * many,) * 3) for many in range(1, 8)])
# All voters but one put each name ahead of the next, round in a ring; with two names they are even.
ROUND = tuple([
    (many, tuple([tuple([(name - turn) % many for name in range(many)]) for turn in range(many)]))
    for many in range(2, 8)
])
# 0 beats 1 by 6, 1 beats 2 by 4, 2 beats 0 by 2.
RING = (3, ((0, 1, 2),) * 5 + ((2, 0, 1),) * 3 + ((1, 2, 0),) * 4)
# 0 beats 1, and 2 neither beats nor is beaten: 1 is of the crowd, but not of the firsts.
HALF_ALIKE = (3, ((0, 1, 0), (0, 1, 2), (1, 0, 0)))
# A ring of 0, 1, 2, each of which beats each of the ring of 3, 4, 5; all beat 6.
RING_OVER_RING = (7, ((0, 1, 2, 10, 11, 12, 50), (1, 2, 0, 11, 12, 10, 50), (2, 0, 1, 12, 10, 11, 50)))
# A well-known election of 45 voters; its order is E A C B D.
KNOWN_ORDERS = ((5, "ACBED"), (5, "ADECB"), (8, "BEDAC"), (3, "CABED"), (7, "CAEBD"), (2, "CBADE"), (7, "DCEBA"),
                (8, "EBADC"))


def known_box():
    ballots = []
    for times, order in KNOWN_ORDERS:
        ballots += [tuple([order.index(name) for name in "ABCDE"])] * times
    return (5, tuple(ballots))


def numbers(seed):
    # A fixed row of numbers, the same on each Python.
    state = seed
    while True:
        state = (state * 6364136223846793005 + 1442695040888963407) % 2 ** 64
        yield state >> 33


def mixed_box(source, many, length, span):
    places = [tuple([next(source) % span for name in range(many)]) for ballot in range(length)]
    # Every other box has doubled ballots.
    if length > 1 and next(source) % 2 == 0:
        places[-1] = places[0]
    return (many, tuple(places))


def mixed_boxes(seed, times, most_names=7, span_at_most=100):
    source = numbers(seed)
    boxes = []
    for turn in range(times):
        for many in range(1, most_names + 1):
            span = min((2, 3, 7, 100)[next(source) % 4], span_at_most)
            boxes.append(mixed_box(source, many, next(source) % (41 if turn % 4 == 0 else 10), span))
    return boxes


def small_boxes():
    ballots = list(itertools.product(range(3), repeat=3))
    return [(3, pair) for pair in itertools.combinations_with_replacement(ballots, 2)]


def boxes():
    named = ONE_NAME + NO_BALLOT + ALL_ALIKE + ROUND + (RING, HALF_ALIKE, RING_OVER_RING)
    return list(named) + mixed_boxes(1, 8)


def lead_in(box, one, other):
    return sum([(ballot[one] < ballot[other]) - (ballot[other] < ballot[one]) for ballot in box[1]])


def table_of(box):
    return [[lead_in(box, one, other) for other in range(box[0])] for one in range(box[0])]


def unlike_pairs(box):
    return list(itertools.permutations(range(box[0]), 2))


def some_of(names):
    return [some for size in range(len(names) + 1) for some in itertools.combinations(names, size)]


def others_than(box, names):
    return [name for name in range(box[0]) if name not in names]


def all_ways(box, one, other):
    between = others_than(box, (one, other))
    return [(one,) + way + (other,) for size in range(len(between) + 1)
            for way in itertools.permutations(between, size)]


def least_lead(leads, way):
    return min([leads[name][after] for name, after in zip(way, way[1:])])


def greatest_out(leads, inside):
    return max([leads[name][other] for name in inside for other in range(len(leads)) if other not in inside])


def strongest(box, leads, one, other):
    return max([0] + [least_lead(leads, way) for way in all_ways(box, one, other)])


def above_of(box):
    leads = table_of(box)
    strong = {pair: strongest(box, leads, pair[0], pair[1]) for pair in unlike_pairs(box)}
    return tuple([(one, other) for one, other in unlike_pairs(box) if strong[one, other] > strong[other, one]])


def all_crowds(box):
    leads = table_of(box)
    return [some for some in some_of(range(box[0])) if some and all(
        [leads[name][other] > 0 for name in some for other in others_than(box, some)])]


def is_plain(thing):
    """Whether a thing is made of tuples, whole numbers, truths and None alone, and of nothing that is only like them."""
    if type(thing) is tuple:
        return all([is_plain(part) for part in thing])
    return thing is None or type(thing) in (int, bool)


def is_names(thing, many):
    """Whether a thing is a tuple of unlike names, whole numbers each."""
    return (type(thing) is tuple and all([type(name) is int and 0 <= name < many for name in thing])
            and len(set(thing)) == len(thing))
