"""Least machines: without the points, moments and ranks that make no difference."""


def needed_at(machine, point):
    """The ascending tuple of the live moments by which a thing at this point stands, now or later."""
    return _all_needed(machine)[point]


def alike_points(machine):
    """For each point the least point that is alike to it."""
    return _leaders(machine, _all_needed(machine))


def is_least(machine):
    """Whether the machine is the least one of those that let and sort as it does."""
    return machine == least_machine(machine)


def least_machine(machine):
    """The least machine that lets the same runs, sorts each row in the same way, and labels in the same way."""
    begins, _, moves = machine
    needed = _all_needed(machine)
    leaders = _leaders(machine, needed)
    number = {}
    for begin in begins:
        number.setdefault(leaders[begin], len(number))
    kept = list(number)
    at = 0
    while at < len(kept):
        for entry in moves[kept[at]]:
            if entry is not None and leaders[entry[0]] not in number:
                number[leaders[entry[0]]] = len(kept)
                kept.append(leaders[entry[0]])
        at += 1
    places = [number.get(leader) for leader in leaders]
    return (tuple([places[begin] for begin in begins]), _least_points(machine, needed, kept),
            tuple([_least_move(moves[point], needed, point, places) for point in kept]))


def _least_points(machine, needed, kept):
    points = machine[1]
    ranks = []
    for row in range(len(points[0][0])):
        found = sorted({points[point][0][row][0]: True for point in kept})
        ranks.append({rank: at for at, rank in enumerate(found)})
    return tuple([
        (tuple([(ranks[which][rank], way, needed[point].index(at))
                for which, (rank, way, at) in enumerate(points[point][0])]), len(needed[point]), points[point][2])
        for point in kept])


def _least_move(move, needed, point, places):
    return tuple([None if entry is None else (places[entry[0]], _needed_take(entry, needed, point)) for entry in move])


def _needed_take(entry, needed, point):
    """What is taken of the needed moments of the point, for those of the next one."""
    behind, take = entry
    return tuple([needed[point].index(take[k]) if take[k] >= 0 else -1 for k in needed[behind]])


def _all_needed(machine):
    """For each point the ascending tuple of its needed live moments."""
    _, points, moves = machine
    needed = [{at: True for _, _, at in stands} for stands, _, _ in points]
    grown = True
    while grown:
        grown = False
        # Backwards, as most moves lead on to points with greater numbers.
        for point in range(len(points) - 1, -1, -1):
            many = len(needed[point])
            for k in _needed_behind(needed, moves[point]):
                needed[point][k] = True
            grown = grown or len(needed[point]) > many
    return [tuple(sorted(some)) for some in needed]


def _needed_behind(needed, move):
    """The live moments that are needed at a point to which the move leads."""
    entries = [entry for entry in move if entry is not None]
    return [take[k] for behind, take in entries for k in needed[behind] if take[k] >= 0]


def _leaders(machine, needed):
    """For each point the least one that is alike: points are parted for as long as there is a reason."""
    _, points, moves = machine
    shown = []
    for point, (stands, _, label) in enumerate(points):
        by = tuple([(rank, way, needed[point].index(at)) for rank, way, at in stands])
        shown.append((label, len(needed[point]), by))
    leaders = _first_places(shown)
    while True:
        finer = _first_places([(leaders[point], _least_move(move, needed, point, leaders))
                               for point, move in enumerate(moves)])
        if finer == leaders:
            return leaders
        leaders = finer


def _first_places(rows):
    """For each of the rows the index of the first one that is equal."""
    first = {}
    for at, row in enumerate(rows):
        first.setdefault(row, at)
    return [first[row] for row in rows]
