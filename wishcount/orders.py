"""Which names stand above which, and which stand first."""

from wishcount.chains import strengths
from wishcount.tables import table


def above(box):
    strong = strengths(box)
    pairs = []
    for one in range(box[0]):
        for other in range(box[0]):
            if strong[one][other] > strong[other][one]:
                pairs.append((one, other))
    return tuple(pairs)


def firsts(box):
    below = [pair[1] for pair in above(box)]
    return tuple([name for name in range(box[0]) if name not in below])


def best(box):
    # A name that beats all others is a crowd by itself, and no crowd is less than one name.
    names = crowd(box)
    return names[0] if len(names) == 1 else None


def crowd_around(leads, name):
    # A name that one of the crowd does not beat can't stay outside.
    inside = [name]
    seen = 0
    while seen < len(inside):
        row = leads[inside[seen]]
        inside = inside + [other for other in range(len(row)) if row[other] <= 0 and other not in inside]
        seen += 1
    return tuple(sorted(inside))


def crowd(box):
    leads = table(box)
    crowds = [crowd_around(leads, name) for name in range(box[0])]
    # A box without names lies beyond the bound, but is not refused for it.
    return min(crowds, key=len, default=())
