"""Closings: a finite table of chains, which tells whether a tie can go round a ring of things."""

from ownmoment.books import is_tuple_of, is_within
from ownmoment.errors import TooMany
from ownmoment.ties import tying_weavings, weavings_between

MOST_ENTRIES = 6000


def closing_table(machine, tie):
    """The ascending list of all entries."""
    return sorted(entries_of(Links(machine, tie)))


class Links:
    """The weavings by which things at two points are tied, with FORTH and BACK; they are asked for again and again."""

    def __init__(self, machine, tie):
        self._machine = machine
        self._tie = tie
        self._known = {}
        self._all_from = {}

    def points(self):
        """The points of the machine."""
        return list(range(len(self._machine[1])))

    def live(self, point):
        """How many live moments there are at the point."""
        return self._machine[1][point][1]

    def between(self, one, other):
        """Tuples (weaving, forth, back) of the weavings by which a thing at one is tied to one at other."""
        if (one, other) not in self._known:
            self._known[(one, other)] = _with_behind(tying_weavings(self._machine, self._tie, one, other))
        return self._known[(one, other)]

    def apart(self, one, other):
        """Tuples (weaving, forth, back) of the weavings by which a thing at one is not tied to one at other."""
        tying = [weaving for weaving, _, _ in self.between(one, other)]
        return _with_behind([weaving for weaving in weavings_between(self._machine, one, other)
                             if weaving not in tying])

    def all_from(self, one):
        """Tuples (other, weaving, forth, back) for all points to which a thing at one can be tied."""
        if one not in self._all_from:
            self._all_from[one] = [(other, *link) for other in self.points() for link in self.between(one, other)]
        return self._all_from[one]


def _with_behind(weavings):
    return [(weaving, _behind(weaving, 0), _behind(weaving, 1)) for weaving in weavings]


def _behind(weaving, whose):
    """For each moment of one of two things how many of the other one's are ahead of it: so the first one behind it."""
    found = []
    passed = 0
    for which in weaving:
        if which == whose:
            found.append(passed)
        else:
            passed += 1
    return tuple(found)


def entries_of(links):
    """Each entry with (the entry that its last thing was added to, or None, and the weaving with this thing).

    Entries of fewer things stand ahead of those that only longer chains have.
    """
    found = {}
    for first in links.points():
        for now, weaving, forth, back in links.all_from(first):
            _keep(found, (first, now, forth, back), None, weaving)
    todo = list(found)
    at = 0
    while at < len(todo):
        entry = todo[at]
        for further, weaving in further_entries(links, entry):
            if _keep(found, further, entry, weaving):
                todo.append(further)
        at += 1
    return found


def _keep(found, entry, before, weaving):
    """Whether the entry is a new one; then it is kept."""
    if entry in found:
        return False
    if len(found) == MOST_ENTRIES:
        raise TooMany(MOST_ENTRIES)
    found[entry] = (before, weaving)
    return True


def further_entries(links, entry):
    """The tuples (entry, weaving) that a further thing makes of an entry."""
    first, now, forth, back = entry
    mine, middle = links.live(first), links.live(now)
    return [((first, other, _then(forth, middle, onwards, links.live(other)), _then(backwards, middle, back, mine)),
             weaving) for other, weaving, onwards, backwards in links.all_from(now)]


def _then(first, middle, second, end):
    """What comes of going by first and on by second, by way of a thing with so many moments, to one with end."""
    return tuple([second[k] if k < middle else end for k in first])


def does_close(machine, tie, entry):
    """Whether the entry closes."""
    return closing_weaving(Links(machine, tie), entry) is not None


def closing_weaving(links, entry):
    """A weaving of the last and the first thing by which the entry closes, or None."""
    first, now, forth, back = entry
    mine, middle = links.live(first), links.live(now)
    for weaving, onwards, backwards in links.between(now, first):
        rounds = [_then(forth, middle, onwards, mine), _then(backwards, middle, back, mine)]
        if all([k > moment for behind in rounds for moment, k in enumerate(behind)]):
            return weaving
    return None


def is_closing_table(machine, tie, thing):
    """Whether it is an ascending list of entries by form that has all of two things, and all that come of its own."""
    links = Links(machine, tie)
    if not (isinstance(thing, list) and all([_is_entry(links, entry) for entry in thing])):
        return False
    if not all([thing[at] < thing[at + 1] for at in range(len(thing) - 1)]):
        return False
    listed = {entry: True for entry in thing}
    for first in links.points():
        for now, _, forth, back in links.all_from(first):
            if (first, now, forth, back) not in listed:
                return False
    return all([further in listed for entry in thing for further, _ in further_entries(links, entry)])


def _is_entry(links, thing):
    if not (is_tuple_of(thing, 4) and all([is_within(point, 0, len(links.points()) - 1) for point in thing[:2]])):
        return False
    mine, theirs = links.live(thing[0]), links.live(thing[1])
    return _are_indexes(thing[2], mine, theirs) and _are_indexes(thing[3], theirs, mine)


def _are_indexes(thing, many, most):
    return is_tuple_of(thing, many) and all([is_within(k, 0, most) for k in thing])
