"""Boxes made of other boxes: a name raised, all orders turned about, a name gone, names renamed."""

from wishcount.errors import NoBallot
from wishcount.things import LAST_PLACE


def raised_on(ballot, name, by):
    place = max(ballot[name] - by, 0)
    return ballot[:name] + (place,) + ballot[name + 1:]


def raised(box, k, name, by):
    ballots = box[1]
    # Python would count a number below 0 from the end; here no ballot has such a number.
    if k < 0 or k >= len(ballots):
        # The words leave k out: Python refuses to write out a number of very many digits.
        raise NoBallot("there is no ballot of this number")
    return (box[0], ballots[:k] + (raised_on(ballots[k], name, by),) + ballots[k + 1:])


def turned_on(ballot):
    return tuple([LAST_PLACE - place for place in ballot])


def turned(box):
    return (box[0], tuple([turned_on(ballot) for ballot in box[1]]))


def without_on(ballot, name):
    return ballot[:name] + ballot[name + 1:]


def without(box, name):
    return (box[0] - 1, tuple([without_on(ballot, name) for ballot in box[1]]))


def renamed_on(ballot, names):
    return tuple([ballot[names.index(name)] for name in range(len(names))])


def renamed(box, names):
    return (box[0], tuple([renamed_on(ballot, names) for ballot in box[1]]))
