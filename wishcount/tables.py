"""By how much more voters put one name ahead of another one."""


def times_ahead(ballots, one, other):
    return len([ballot for ballot in ballots if ballot[one] < ballot[other]])


def lead(box, one, other):
    ballots = box[1]
    return times_ahead(ballots, one, other) - times_ahead(ballots, other, one)


def row(box, one):
    return tuple([lead(box, one, other) for other in range(box[0])])


def table(box):
    return tuple([row(box, one) for one in range(box[0])])


def beats(box, one, other):
    return lead(box, one, other) > 0
