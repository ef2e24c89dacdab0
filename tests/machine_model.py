"""Machines looked at slowly, by the definitions alone, and machines written otherwise, to compare the program with.

It shares no code with the program. It uses all of Python.
"""

import itertools

from tests import model


# Machines that are made of a machine.

def reached(machine):
    """The machine without the points that nothing comes to."""
    begins, points, moves = machine
    found = set(begins)
    while True:
        more = {entry[0] for point in found for entry in moves[point] if entry} | found
        if more == found:
            break
        found = more
    number = {point: at for at, point in enumerate(sorted(found))}
    return (tuple(number[point] for point in begins), tuple(points[point] for point in sorted(found)),
            tuple(tuple(entry and (number[entry[0]], entry[1]) for entry in moves[point]) for point in sorted(found)))


def permuted(chance, machine):
    begins, points, moves = machine
    order = list(range(len(points)))
    chance.shuffle(order)
    place = {old: new for new, old in enumerate(order)}
    return (tuple(place[point] for point in begins), tuple(points[old] for old in order),
            tuple(tuple(entry and (place[entry[0]], entry[1]) for entry in moves[old]) for old in order))


def stretched(chance, machine):
    """Other ranks in the same order, with gaps."""
    begins, points, moves = machine
    made = [list(stands) for stands, _, _ in points]
    for row in range(len(points[0][0])):
        ranks = sorted({stands[row][0] for stands, _, _ in points})
        fresh = sorted(chance.sample(range(3 * len(ranks) + 4), len(ranks)))
        for stands in made:
            rank, way, at = stands[row]
            stands[row] = (fresh[ranks.index(rank)], way, at)
    return (begins, tuple((tuple(stands), live, label) for stands, (_, live, label) in zip(made, points)), moves)


def doubled(chance, machine):
    """Some points twice; which one of the two is led to is left to chance."""
    begins, points, moves = machine
    copies = list(range(len(points))) + [point for point in range(len(points)) if chance.random() < .6]
    places = {point: [at for at, one in enumerate(copies) if one == point] for point in range(len(points))}
    return (tuple(chance.choice(places[point]) for point in begins), tuple(points[point] for point in copies),
            tuple(tuple(entry and (chance.choice(places[entry[0]]), entry[1]) for entry in moves[point])
                  for point in copies))


def with_moment(chance, machine):
    """One more live moment at a point, which nobody needs; the machine itself where there is no place for one."""
    begins, points, moves = machine
    tries = [(point, place) for point in range(len(points)) for place in range(points[point][1] + 1)]
    chance.shuffle(tries)
    for point, place in tries:
        if points[point][1] == 3 or point in begins:
            continue
        takes = {}
        for source, move in enumerate(moves):
            for deed, entry in enumerate(move):
                if entry and entry[0] == point:
                    options = [take for take in ways_to_take(points[source][1], points[point][1] + 1)
                               if take[:place] + take[place + 1:] == entry[1]]
                    takes[source, deed] = chance.choice(options) if options else None
        if None in takes.values():
            continue
        stands, live, label = points[point]

        def moved(index):
            return index + (index >= place)
        fresh = (tuple((rank, way, moved(at)) for rank, way, at in stands), live + 1, label)
        made = []
        for source, move in enumerate(moves):
            row = []
            for deed, entry in enumerate(move):
                if entry:
                    take = takes.get((source, deed), entry[1])
                    if source == point:
                        # A choice made above names moments as they were before.
                        take = tuple(index if index < 0 else moved(index) for index in take)
                    entry = (entry[0], take)
                row.append(entry)
            made.append(tuple(row))
        return (begins, points[:point] + (fresh,) + points[point + 1:], tuple(made))
    return machine


def ways_to_take(live, many):
    """All that so many live moments can be, of a point with live ones."""
    pool = [*range(live), -1]
    return [take for take in itertools.combinations(pool, many)]


def with_point(chance, machine):
    """One point more that nothing comes to."""
    begins, points, moves = machine
    twin = chance.randrange(len(points))
    made = []
    for entry in moves[twin]:
        point = chance.randrange(len(points))
        options = ways_to_take(points[twin][1], points[point][1])
        same_kind = points[point][2][:1] == points[twin][2][:1]
        made.append((point, chance.choice(options)) if options and same_kind and chance.random() < .7 else entry)
    return (begins, points + (points[twin],), moves + (tuple(made),))


def otherwise(chance, machine):
    """A machine that lets and sorts the same, written otherwise."""
    machine = doubled(chance, machine)
    for _ in range(chance.randrange(3)):
        machine = with_moment(chance, machine)
    if chance.random() < .6:
        machine = with_point(chance, machine)
    machine = permuted(chance, stretched(chance, machine))
    assert model.ok_machine(machine), machine
    return machine


def altered(chance, machine):
    """A machine with one place otherwise."""
    begins, points, moves = machine
    while True:
        point = chance.randrange(len(points))
        stands, live, label = points[point]
        row = chance.randrange(len(stands))
        rank, way, at = stands[row]
        what = chance.choice(("rank", "way", "at", "let", "next", "take"))
        some_points, some_moves = list(points), [list(move) for move in moves]
        if what in ("rank", "way", "at"):
            fresh = {"rank": (chance.randrange(4), way, at), "at": (rank, way, chance.randrange(live)),
                     "way": (rank, "later" if way == "earlier" else "earlier", at)}[what]
            some_points[point] = (stands[:row] + (fresh,) + stands[row + 1:], live, label)
        elif moves[point]:
            deed = chance.randrange(len(moves[point]))
            entry = moves[point][deed]
            behind = chance.randrange(len(points)) if what != "take" or not entry else entry[0]
            options = ways_to_take(live, points[behind][1])
            fresh = (behind, chance.choice(options)) if options else None
            some_moves[point][deed] = None if what == "let" and entry else fresh
        made = (begins, tuple(some_points), tuple(map(tuple, some_moves)))
        if made != machine and model.ok_machine(made):
            return made


# What the definitions say.

def let_at(machine, point):
    return [deed + 1 for deed, entry in enumerate(machine[2][point]) if entry]


def origins(machine, point, deeds):
    """The point behind the deeds, and what its live moments were: ("old", index) or ("new", place in deeds)."""
    live = [("old", index) for index in range(machine[1][point][1])]
    for place, deed in enumerate(deeds):
        entry = machine[2][point][deed - 1]
        if not entry:
            return None
        point, live = entry[0], [("new", place) if index == -1 else live[index] for index in entry[1]]
    return point, live


def futures(machine, depth):
    many = len(machine[2][0])
    for length in range(depth + 1):
        yield from itertools.product(range(1, many + 1), repeat=length)


def needed(machine, point, depth):
    """The live moments by which a thing at the point stands in some row behind at most so many deeds."""
    found = set()
    for deeds in futures(machine, depth):
        behind = origins(machine, point, deeds)
        if behind:
            found |= {behind[1][at][1] for _, _, at in machine[1][behind[0]][0] if behind[1][at][0] == "old"}
    return tuple(sorted(found))


def are_alike_points(machine, one, other, depth):
    mine, theirs = needed(machine, one, depth), needed(machine, other, depth)
    if len(mine) != len(theirs):
        return False

    def shown(point, counted, deeds):
        behind = origins(machine, point, deeds)
        if behind is None:
            return None
        stands, _, label = machine[1][behind[0]]
        told = []
        for rank, way, at in stands:
            which, index = behind[1][at]
            told.append((rank, way, which, counted.index(index) if which == "old" else index))
        return label, told
    return all(shown(one, mine, deeds) == shown(other, theirs, deeds) for deeds in futures(machine, depth))


def row_of(machine, row, figures):
    """The things as they stand."""
    table = dict(figures)
    return sorted(table, key=lambda x: sum(model.is_ahead(machine, row, table[y], table[x]) for y in table if y != x))


def is_parting(one, other, run):
    """Whether a list of tuples by form parts two machines."""
    behind = [model.figures_behind(machine, run) for machine in (one, other)]
    barred = [type(found) is int for found in behind]
    if barred == [False, False]:
        return bool(run) and any(row_of(one, row, behind[0]) != row_of(other, row, behind[1])
                                 for row in range(len(one[1][0][0])))
    if barred == [True, True]:
        return False
    return [found for found in behind if type(found) is int] == [len(run) - 1]


def normal(figures):
    """The figures of several machines with their moments numbered anew."""
    moments = sorted({moment for some in figures for _, (_, times) in some for moment in times})
    return tuple(tuple((x, point, tuple(moments.index(moment) for moment in times)) for x, (point, times) in some)
                 for some in figures)


def shortest_run(machines, things, is_goal):
    """A shortest list of tuples of the things that is_goal takes, of those that all machines let but for the last one."""
    layer, seen = [[]], set()
    deeds = [-1, *range(len(machines[0][2][0]) + 1)]
    while layer:
        following = []
        for run in layer:
            for done in itertools.product(deeds, things):
                if is_goal(run + [done]):
                    return run + [done]
                figures = [model.figures_behind(machine, run + [done]) for machine in machines]
                if any(type(some) is int for some in figures) or normal(figures) in seen:
                    continue
                seen.add(normal(figures))
                following.append(run + [done])
        layer = following
    return None
