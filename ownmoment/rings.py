"""Rings: whether things can be tied one to the next for ever, or in a ring, and runs that show it."""

from ownmoment.closings import Links, closing_weaving, entries_of, further_entries
from ownmoment.logs import own_log
from ownmoment.machines import figures_of
from ownmoment.orders import order_by


class Marked:
    """The points of a machine as far as they tell who is ahead: with the moments alone by which a thing stands.

    For any moments of things by which they stand there are others for the rest, so that chains are the same.
    """

    def __init__(self, machine, tie):
        begins, points, moves = machine
        marked = {}
        for point, (stands, _, label) in enumerate(points):
            moments = sorted({at: True for _, _, at in stands})
            places = tuple([(rank, way, moments.index(at)) for rank, way, at in stands])
            marked.setdefault((places, len(moments), label), (point, tuple(moments)))
        # For each of the points marked so one that is a point of the machine, and its moments that count.
        self.places = list(marked.values())
        self.links = Links((begins, tuple(marked), moves), tie)


def most_in_chain(machine, tie):
    """The greatest number of things of a chain, or None if there is none."""
    marked = Marked(machine, tie)
    many = len(marked.places)
    # Where more things than points follow one another, one of the points comes again, and again.
    layers = _layers(marked.links, many + 1)
    return None if layers[many] else len([layer for layer in layers if layer])


def _layers(links, many):
    """For 1, 2 .. up to many things the points, as the keys of a dict, at which chains of so many begin."""
    layers = [{point: True for point in links.points()}]
    for _ in range(many - 1):
        layers.append({point: True for point in links.points()
                       if any([other in layers[-1] for other, _, _, _ in links.all_from(point)])})
    return layers


def chain_of(machine, tie, many):
    """A run and a chain of so many things behind it, or None."""
    marked = Marked(machine, tie)
    layers = _layers(marked.links, many)
    if not layers[-1]:
        return None
    points = [min(layers[-1])]
    ties = []
    for layer in layers[-2::-1]:
        following = [(other, weaving) for other, weaving, _, _ in marked.links.all_from(points[-1]) if other in layer]
        ties.append((len(ties), len(points), following[0][1]))
        points.append(following[0][0])
    return _shown(machine, [marked.places[point] for point in points], ties)


def ring_of(machine, tie):
    """A run and a ring behind it of as few things as there can be, or None."""
    links = Links(machine, tie)
    entries = entries_of(links)
    # Those of fewer things come first.
    for entry in entries:
        weaving = closing_weaving(links, entry)
        if weaving is not None:
            points, ties = _chain_to(entries, entry)
            ties.append((len(points) - 1, 0, weaving))
            return _shown(machine, [(point, tuple(range(links.live(point)))) for point in points], ties)
    return None


def _chain_to(entries, entry):
    """The points of a chain with this entry, and the tuples (i, j, weaving) of its neighbours."""
    points = [entry[1]]
    weavings = []
    while entry is not None:
        first = entry[0]
        entry, weaving = entries[entry]
        weavings.append(weaving)
        points.append(first if entry is None else entry[1])
    return points[::-1], [(at, at + 1, weaving) for at, weaving in enumerate(weavings[::-1])]


def order_fault(machine, tie):
    """A run behind which the tie is no order, and a chain that shows it, or None."""
    marked = Marked(machine, tie)
    found = _mutual(marked.links) or _broken(marked.links)
    if found is None:
        return None
    points, ties = found
    return _shown(machine, [marked.places[point] for point in points], ties)


def _mutual(links):
    """The points of a ring of two things, and how their moments follow one another, or None."""
    for first in links.points():
        for second, weaving, _, _ in links.all_from(first):
            mirrored = tuple([1 - whose for whose in weaving])
            if any([back == mirrored for back, _, _ in links.between(second, first)]):
                return ([first, second], [(0, 1, weaving)])
    return None


def _broken(links):
    """The points of a chain of three of which the first one need not be tied to the last, and the same, or None."""
    seen = {}
    for first in links.points():
        for second, weaving, forth, back in links.all_from(first):
            for entry, onwards in further_entries(links, (first, second, forth, back)):
                untying = None if entry in seen else _untying_weaving(links, entry)
                seen[entry] = True
                if untying is not None:
                    return ([first, second, entry[1]], [(0, 1, weaving), (1, 2, onwards), (0, 2, untying)])
    return None


def _untying_weaving(links, entry):
    """A weaving of the first and the last thing of a chain that leaves them untied, or None."""
    first, last, forth, back = entry
    for weaving, onwards, backwards in links.apart(first, last):
        # Along the chain it is told what is behind a moment at the latest.
        if all([k <= most for k, most in zip(onwards + backwards, forth + back)]):
            return weaving
    return None


def _shown(machine, places, ties):
    """A run and a chain behind it, of things at places: tuples (point, its moments that are woven).

    ties has tuples (i, j, weaving) of two of these things, by which their moments can follow one another.
    """
    chain = []
    numbers = {}
    for point, _ in places:
        kind = machine[1][point][2][0]
        chain.append((kind, numbers.get(kind, 0)))
        numbers[kind] = numbers.get(kind, 0) + 1
    log, pairs, moments = [], [], []
    for x, (point, some) in zip(chain, places):
        own = own_log(machine, x, point)
        times = figures_of(machine, own)[0][1][1]
        moments.append([len(log) + times[k] for k in some])
        pairs.extend([(len(log) + at, len(log) + at + 1) for at in range(len(own) - 1)])
        log.extend(own)
    for i, j, weaving in ties:
        woven = _woven(moments[i], moments[j], weaving)
        pairs.extend(list(zip(woven, woven[1:])))
    return ([log[at] for at in order_by(len(log), pairs)], chain)


def _woven(mine, theirs, weaving):
    """The moments of two things as they follow one another."""
    rest = [mine[::-1], theirs[::-1]]
    return [rest[whose].pop() for whose in weaving]
