"""Machines of one kind beside one another, in one row, and all the ways to put their classes together."""

from ownmoment.errors import NoOrder, TooMany, Unlike
from ownmoment.machines import machine_deeds, machine_kinds, machine_rows, row_machine

MOST_CHOICES = 1000


def classes_of(machine):
    """The ascending list of the classes (rank, way) of a machine of one row."""
    _refuse_rows(machine)
    return sorted({stands[0][:2]: True for stands, _, _ in machine[1]})


def only_kind(machine, kind):
    """The machine of the things of this kind alone."""
    _refuse_rows(machine)
    begins, points, moves = row_machine(machine, 0)
    found = {begins[kind]: True}
    todo = [begins[kind]]
    while todo:
        for entry in moves[todo.pop()]:
            if entry is not None and entry[0] not in found:
                found[entry[0]] = True
                todo.append(entry[0])
    kept = sorted(found)
    number = {point: at for at, point in enumerate(kept)}
    return ((number[begins[kind]],), tuple([points[point] for point in kept]),
            tuple([_renumbered(moves[point], number) for point in kept]))


def _renumbered(move, number):
    """The move with other numbers for the points, which number tells."""
    return tuple([None if entry is None else (number[entry[0]], entry[1]) for entry in move])


def side_by_side(one, other, ranks):
    """The machine of two kinds that leads the first as one and the second as other, each class by its rank."""
    ways = _ways_of_both(one, other)
    for i, mine in enumerate(ranks[0]):
        for j, theirs in enumerate(ranks[1]):
            if mine == theirs and ways[0][i] != ways[1][j]:
                raise NoOrder((i, j))
    many = len(one[1])
    behind = [many + point for point in range(len(other[1]))]
    return ((one[0][0], other[0][0] + many), _with_ranks(one, ranks[0]) + _with_ranks(other, ranks[1]),
            one[2] + tuple([_renumbered(move, behind) for move in other[2]]))


def _with_ranks(machine, ranks):
    """The points with these ranks for the classes, without labels."""
    index = {rank: at for at, (rank, _) in enumerate(classes_of(machine))}
    found = []
    for stands, live, _ in machine[1]:
        rank, way, at = stands[0]
        found.append((((ranks[index[rank]], way, at),), live, ()))
    return tuple(found)


def rank_choices(one, other):
    """The ascending list of all ranks by which the classes of both are put together without a gap."""
    ways = _ways_of_both(one, other)
    if _many_orders(ways) > MOST_CHOICES:
        raise TooMany(MOST_CHOICES)
    found = []
    # How many classes of each have a rank already, and the ranks that they have.
    todo = [((), ())]
    rank = 0
    while todo:
        found.extend([ranks for ranks in todo if _is_whole(ways, ranks)])
        todo = [further for ranks in todo for further in _with_next(ways, ranks, rank)]
        rank += 1
    return sorted(found)


def _is_whole(ways, ranks):
    return len(ranks[0]) == len(ways[0]) and len(ranks[1]) == len(ways[1])


def _with_next(ways, ranks, rank):
    """The ranks with the next rank given to the next class of the first, of the second, or of both."""
    mine, theirs = ranks
    found = []
    if len(mine) < len(ways[0]):
        found.append((mine + (rank,), theirs))
    if len(theirs) < len(ways[1]):
        found.append((mine, theirs + (rank,)))
    if len(found) == 2 and ways[0][len(mine)] == ways[1][len(theirs)]:
        found.append((mine + (rank,), theirs + (rank,)))
    return found


def class_orders(one, other):
    """How many ranks there are by which the classes of both are put together without a gap."""
    return _many_orders(_ways_of_both(one, other))


def _many_orders(ways):
    above = [1] * (len(ways[1]) + 1)
    for mine in ways[0]:
        row = [1]
        for j, theirs in enumerate(ways[1]):
            row.append(above[j + 1] + row[j] + (above[j] if mine == theirs else 0))
        above = row
    return above[-1]


def ranks_between(machine):
    """The ranks by which the two kinds of a machine, each alone, are put together to one alike to it."""
    _refuse_rows(machine)
    if machine_kinds(machine) != 2:
        raise Unlike()
    some = [[rank for rank, _ in classes_of(only_kind(machine, kind))] for kind in (0, 1)]
    order = sorted({rank: True for rank in some[0] + some[1]})
    return tuple([tuple([order.index(rank) for rank in ranks]) for ranks in some])


def _refuse_rows(machine):
    if machine_rows(machine) != 1:
        raise Unlike()


def _ways_of_both(one, other):
    """The ways of the classes of two machines of one row and one kind with equally many deeds."""
    _refuse_rows(one)
    _refuse_rows(other)
    if [machine_kinds(one), machine_kinds(other)] != [1, 1] or machine_deeds(one) != machine_deeds(other):
        raise Unlike()
    return [[way for _, way in classes_of(machine)] for machine in (one, other)]
