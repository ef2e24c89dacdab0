"""Handing things over from one machine to another one."""

from ownmoment.books import is_tuple_of, is_within
from ownmoment.errors import Unlike
from ownmoment.machines import is_ahead_by, machine_rows


def is_map(one, other, thing):
    """Whether it is a map from the first machine to the second one."""
    if not is_tuple_of(thing, len(one[1])):
        return False
    return all([_is_entry(live, other, entry) for (_, live, _), entry in zip(one[1], thing)])


def _is_entry(live, other, thing):
    """Whether it leads a point with so many live moments to a point of the other machine."""
    if not (is_tuple_of(thing, 2) and is_within(thing[0], 0, len(other[1]) - 1)):
        return False
    take = thing[1]
    if not (is_tuple_of(take, other[1][thing[0]][1]) and all([is_within(k, 0, live - 1) for k in take])):
        return False
    return all([take[k] < take[k + 1] for k in range(len(take) - 1)])


def hand_over(table, figures):
    """The figures with which things of the first machine go on in the second one."""
    return [(x, _handed(table, figure)) for x, figure in figures]


def _handed(table, figure):
    point, take = table[figure[0]]
    return (point, tuple([figure[1][k] for k in take]))


def jump_of(one, other, table):
    """The least tuple (row, point, rival, weaving) by which two things change places when handed over, or None."""
    if machine_rows(one) != machine_rows(other):
        raise Unlike()
    points = list(range(len(one[1])))
    for row in range(machine_rows(one)):
        for point in points:
            for rival in points:
                for weaving in weavings_of(one[1][point][1], one[1][rival][1]):
                    if _is_jump(one, other, table, row, (point, rival), weaving):
                        return (row, point, rival, weaving)
    return None


def weavings_of(mine, theirs):
    """The ascending list of the tuples of so many 0 and so many 1."""
    if mine == 0 or theirs == 0:
        return [(0,) * mine + (1,) * theirs]
    firsts = [(0,) + rest for rest in weavings_of(mine - 1, theirs)]
    return firsts + [(1,) + rest for rest in weavings_of(mine, theirs - 1)]


def figures_woven(points, weaving):
    """Figures of two things at two points with moments woven so."""
    return [(point, tuple([now for now, which in enumerate(weaving) if which == whose]))
            for whose, point in enumerate(points)]


def _is_jump(one, other, table, row, points, weaving):
    figures = figures_woven(points, weaving)
    handed = [_handed(table, figure) for figure in figures]
    return is_ahead_by(one, row, figures[0], figures[1]) != is_ahead_by(other, row, handed[0], handed[1])


def maps_many(one, other):
    """The number of maps without a jump, for machines of one row."""
    ways = _ways_to_hand(one, other)
    # How many ways there are to lead the classes so far into the classes ahead of each one of the second.
    many = [1] * (len(ways[0]) + 1)
    for row in ways:
        further = [0]
        for at, options in enumerate(row):
            product = many[at]
            for entries in options:
                product = product * len(entries)
            further.append(further[at] + product)
        many = further
    return many[-1]


def find_map(one, other):
    """A map without a jump, for machines of one row, or None."""
    ways = _ways_to_hand(one, other)
    chosen = []
    at = 0
    for row in ways:
        # The foremost class that does leaves most to those that follow.
        while at < len(row) and not all(row[at]):
            at += 1
        if at == len(row):
            return None
        chosen.append([entries[0] for entries in row[at]])
        at += 1
    table = {}
    for points, entries in zip(_points_by_rank(one), chosen):
        for point, entry in zip(points, entries):
            table[point] = entry
    return tuple([table[point] for point in range(len(one[1]))])


def _points_by_rank(machine):
    """For each class, the front one first, its points."""
    found = {}
    for point, (stands, _, _) in enumerate(machine[1]):
        found.setdefault(stands[0][0], []).append(point)
    return [found[rank] for rank in sorted(found)]


def _ways_to_hand(one, other):
    """For each class of the first and each one of the second, for each point of the former, the entries of maps
    that lead it there, and keep the way and the moment by which a thing stands.
    """
    if machine_rows(one) != 1 or machine_rows(other) != 1:
        raise Unlike()
    return [[[_entries(one[1][point], other, rivals) for point in points] for rivals in _points_by_rank(other)]
            for points in _points_by_rank(one)]


def _entries(point, other, rivals):
    stands, live, _ = point
    _, way, at = stands[0]
    found = []
    for rival in rivals:
        rival_stands, many, _ = other[1][rival]
        _, rival_way, place = rival_stands[0]
        if way == rival_way:
            found.extend([(rival, take) for take in _takes(live, many) if take[place] == at])
    return found


def _takes(live, many):
    """The strictly ascending tuples of so many indexes of live moments."""
    found = [()]
    for _ in range(many):
        found = [take + (k,) for take in found for k in range(live) if not take or k > take[-1]]
    return found
