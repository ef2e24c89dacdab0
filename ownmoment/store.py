"""A store of things that a machine sorts, for many things and many deeds."""

from ownmoment.books import is_integer, is_thing
from ownmoment.errors import IsThere, NoIndex, NotLet, NotThere, Wrong
from ownmoment.machines import are_points, can_lead, is_deed_of, is_machine, is_thing_led, lead, place_by


class Store:
    """Things sorted by row 0 of a machine; nothing is there at first."""

    def __init__(self, machine):
        if not is_machine(machine):
            raise Wrong(0)
        self._machine = machine
        self._now = 0
        self._figures = {}
        # The places of all things, and of those at each point, ascending: tuples (place, thing).
        self._places = []
        self._places_at = [[] for _ in machine[1]]

    def do(self, deed, thing):
        """Does (deed, thing) at the moment now."""
        check_tuple(self._machine, deed, thing)
        refuse_tuple(self._machine, self._figures, deed, thing)
        self._drop(thing)
        lead(self._machine, self._figures, deed, thing, self._now)
        self._place(thing)
        self._now += 1

    def now(self):
        """How many tuples were done."""
        return self._now

    def many(self):
        """How many things are there."""
        return len(self._places)

    def row(self):
        """The things, the front first."""
        return [x for _, x in self._places]

    def figures(self):
        """The things with their figures, ascending."""
        return [(x, self._figures[x]) for x in sorted(self._figures)]

    def place_of(self, thing):
        """The index of the thing in the row."""
        self._check_there(thing)
        return many_below(self._places, self._entry(thing))

    def figure_of(self, thing):
        """The figure of the thing."""
        self._check_there(thing)
        return self._figures[thing]

    def thing_at(self, index):
        """The thing with this index in the row."""
        if not is_integer(index):
            raise Wrong(0)
        if not 0 <= index < len(self._places):
            raise NoIndex(index)
        return self._places[index][1]

    def foremost(self, points):
        """The foremost thing that is at one of the points, or None."""
        if not are_points(self._machine, points):
            raise Wrong(0)
        found = [self._places_at[point][0] for point in points if self._places_at[point]]
        return min(found)[1] if found else None

    def copied(self):
        """Another store with the same in it."""
        other = Store(self._machine)
        other._now = self._now
        other._figures = {x: self._figures[x] for x in self._figures}
        other._places = list(self._places)
        other._places_at = [list(places) for places in self._places_at]
        return other

    def _drop(self, thing):
        """Takes the thing out of the places, if it is there."""
        if thing in self._figures:
            entry = self._entry(thing)
            beside = self._places_at[self._figures[thing][0]]
            self._places.pop(many_below(self._places, entry))
            beside.pop(many_below(beside, entry))

    def _place(self, thing):
        """Puts the thing into the places, if it is there."""
        if thing in self._figures:
            entry = self._entry(thing)
            beside = self._places_at[self._figures[thing][0]]
            self._places.insert(many_below(self._places, entry), entry)
            beside.insert(many_below(beside, entry), entry)

    def _entry(self, thing):
        return (place_by(self._machine, 0, self._figures[thing]), thing)

    def _check_there(self, thing):
        if not is_thing(thing):
            raise Wrong(0)
        if thing not in self._figures:
            raise NotThere(thing)


def check_tuple(machine, deed, thing):
    """Raises Wrong unless they are a deed, or -1, and a thing of the machine."""
    if not is_deed_of(machine, deed):
        raise Wrong(0)
    if not is_thing_led(machine, thing):
        raise Wrong(1)


def refuse_tuple(machine, figures, deed, thing):
    """Raises the error of what cannot be done, figures being a dict with those of what is there."""
    if can_lead(machine, figures, deed, thing):
        return
    if deed == 0:
        raise IsThere(thing)
    if thing not in figures:
        raise NotThere(thing)
    raise NotLet(deed, thing)


def many_below(entries, entry):
    """How many of the ascending entries are less than this one."""
    low, high = 0, len(entries)
    while low < high:
        middle = (low + high) // 2
        if entries[middle] < entry:
            low = middle + 1
        else:
            high = middle
    return low
