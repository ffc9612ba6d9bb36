"""The strongest chains from one name to another, and the walls that nothing stronger passes."""

from wishcount.tables import table


def links(row):
    # Only a name that beats the next is followed by it in a chain: any other lead carries nothing.
    return [max(lead, 0) for lead in row]


def strengthened(row, middle, middle_row):
    return [max(row[other], min(row[middle], middle_row[other])) for other in range(len(row))]


def strengths(box):
    many = box[0]
    rows = [links(row) for row in table(box)]
    for middle in range(many):
        for one in range(many):
            rows[one] = strengthened(rows[one], middle, rows[middle])
    return rows


def strength(box, one, other):
    return strengths(box)[one][other]


def reached(leads, one, least):
    # Each name is kept with the one that it was reached from, so that the way can be walked back.
    came_from = {one: None}
    waiting = [one]
    while len(waiting) > 0:
        name = waiting.pop(0)
        for other in range(len(leads)):
            if leads[name][other] >= least and other not in came_from:
                came_from[other] = name
                waiting.append(other)
    return came_from


def chain(box, one, other):
    least = strength(box, one, other)
    if least == 0:
        return None
    came_from = reached(table(box), one, least)
    names = [other]
    while names[0] != one:
        names.insert(0, came_from[names[0]])
    return tuple(names)


def wall(box, one, other):
    # Other is not among those that stronger links lead to from one: a chain to it would be stronger than the strongest.
    least = strength(box, one, other) + 1
    return tuple(sorted(reached(table(box), one, least)))
