"""Ties looked at slowly, by the definitions alone, and machines and ties by chance. It shares no code with the program."""

import itertools

from tests import machine_model, model
from tests.test_machines import chance_machine


def ok_tie(rows, value):
    def ok_label(label):
        return type(label) is tuple and len(label) == 2 and all(type(part) is int and part >= 0 for part in label)
    return type(value) is tuple and len(value) <= 12 and all(
        type(one) is tuple and len(one) == 3 and ok_label(one[0]) and ok_label(one[1]) and type(one[2]) is tuple and len(one[2]) == rows
        and all(type(side) is int and side in (0, 1, 2) for side in one[2]) for one in value)


def is_tied(machine, tie, one, other):
    for mine, theirs, sides in tie:
        if (machine[1][one[0]][2], machine[1][other[0]][2]) == (mine, theirs):
            ahead = [model.is_ahead(machine, row, one, other) for row in range(len(sides))]
            if all(side == 0 or (side == 1) == first for side, first in zip(sides, ahead)):
                return True
    return False


def weavings(machine, one, other):
    mine, theirs = machine[1][one][1], machine[1][other][1]
    return sorted({order for order in itertools.permutations([0] * mine + [1] * theirs)})


def woven(one, other, weaving):
    return [(point, tuple(now for now, whose in enumerate(weaving) if whose == which)) for which, point in enumerate((one, other))]


def tying(machine, tie, one, other):
    return [weaving for weaving in weavings(machine, one, other) if is_tied(machine, tie, *woven(one, other, weaving))]


# Chains and rings of a few things, by all ways in which all of their moments can follow one another.

def all_weavings(machine, points):
    """Tuples of as many i as the thing i has live moments, in all orders."""
    left = [machine[1][point][1] for point in points]

    def further(left):
        if not any(left):
            yield ()
            return
        for at, many in enumerate(left):
            if many:
                for rest in further(left[:at] + [many - 1] + left[at + 1:]):
                    yield (at, *rest)
    return further(left)


def figures_woven(points, weaving):
    return [(point, tuple(now for now, whose in enumerate(weaving) if whose == which)) for which, point in enumerate(points)]


def has_chain(machine, tie, many):
    for points in itertools.product(range(len(machine[1])), repeat=many):
        for weaving in all_weavings(machine, points):
            figures = figures_woven(points, weaving)
            if all(is_tied(machine, tie, one, other) for one, other in zip(figures, figures[1:])):
                return True
    return False


def has_ring(machine, tie, many):
    for points in itertools.product(range(len(machine[1])), repeat=many):
        for weaving in all_weavings(machine, points):
            figures = figures_woven(points, weaving)
            if all(is_tied(machine, tie, one, other) for one, other in zip(figures, figures[1:] + figures[:1])):
                return True
    return False


def is_order(machine, tie):
    """Whether no two things are tied both ways, and no three have a chain whose first one is not tied to the last."""
    if has_ring(machine, tie, 2):
        return False
    for points in itertools.product(range(len(machine[1])), repeat=3):
        for weaving in all_weavings(machine, points):
            x, y, z = figures_woven(points, weaving)
            if is_tied(machine, tie, x, y) and is_tied(machine, tie, y, z) and not is_tied(machine, tie, x, z):
                return False
    return True


# Entries, by going from moment to moment.

def first_behind(weaving, whose, moment):
    """The index of the first moment of the other thing behind this one, the number of its moments if there is none."""
    place = [at for at, one in enumerate(weaving) if one == whose][moment]
    others = [at for at, one in enumerate(weaving) if one != whose]
    return next((k for k, at in enumerate(others) if at > place), len(others))


def entry_of(machine, points, links):
    """The entry of a chain at points, whose neighbours are woven by links."""
    def passed(moment, way, end):
        for weaving, whose, many in way:
            moment = first_behind(weaving, whose, moment)
            if moment == many:
                return end
        return moment
    live = [machine[1][point][1] for point in points]
    forth = [(weaving, 0, many) for weaving, many in zip(links, live[1:])]
    back = [(weaving, 1, many) for weaving, many in zip(links, live)][::-1]
    return (points[0], points[-1], tuple(passed(a, forth, live[-1]) for a in range(live[0])),
            tuple(passed(b, back, live[0]) for b in range(live[-1])))


def all_entries(machine, tie, most=100000):
    """Each entry with the least chain: (points, links); chains are made thing by thing."""
    many = range(len(machine[1]))
    links = {(p, q): tying(machine, tie, p, q) for p in many for q in many}
    found, layer = {}, []
    for (p, q), some in links.items():
        for weaving in some:
            entry = entry_of(machine, (p, q), [weaving])
            if entry not in found:
                found[entry] = ((p, q), [weaving])
                layer.append(entry)
    while layer:
        following = []
        for entry in layer:
            points, some = found[entry]
            for q in many:
                for weaving in links[points[-1], q]:
                    chain = ((*points, q), some + [weaving])
                    further = entry_of(machine, *chain)
                    if further not in found:
                        found[further] = chain
                        following.append(further)
        layer = following
        assert len(found) <= most
    return found


def closes(machine, tie, entry):
    first, now, forth, back = entry
    mine, theirs = machine[1][first][1], machine[1][now][1]
    for weaving in tying(machine, tie, now, first):
        ends = []
        for a in range(mine):
            ends.append((a, mine if forth[a] == theirs else first_behind(weaving, 0, forth[a])))
            b = first_behind(weaving, 1, a)
            ends.append((a, mine if b == theirs else back[b]))
        if all(end > a for a, end in ends):
            return True
    return False


# By chance.

def labelled(chance, marks=3):
    """A machine with labels, each point of which can be come to, not too great."""
    while True:
        machine = machine_model.reached(chance_machine(chance))
        begins, points, moves = machine
        kinds = [set() for _ in points]
        for kind, begin in enumerate(begins):
            todo = [begin]
            while todo:
                point = todo.pop()
                if kind not in kinds[point]:
                    kinds[point].add(kind)
                    todo += [entry[0] for entry in moves[point] if entry]
        if len(points) > 4 or any(len(some) > 1 for some in kinds):
            continue
        fresh = tuple((stands, live, (min(some), chance.randrange(marks))) for (stands, live, _), some in zip(points, kinds))
        made = (begins, fresh, moves)
        assert model.ok_machine(made)
        return made


def chance_tie(chance, machine, most=4, sides=(0, 1, 2)):
    labels = sorted({label for _, _, label in machine[1]})
    rows = len(machine[1][0][0])
    if chance.random() < .5:
        # From label to label, and round: for longer chains and rings.
        chance.shuffle(labels)
        return tuple((one, other, tuple(chance.choice((0, 1, 2)) for _ in range(rows))) for one, other in zip(labels, labels[1:] + labels[:1]))
    labels.append((1, 9))
    return tuple((chance.choice(labels), chance.choice(labels), tuple(chance.choice(sides) for _ in range(rows)))
                 for _ in range(chance.randrange(most + 1)))
