"""Turns: who gets the services where all wait, and wait again behind each service."""

from ownmoment.errors import TooMany
from ownmoment.machines import lead, place_by
from ownmoment.store import many_below

MOST_SERVICES = 2000


def keeps_waiting(house):
    """The points from which being served leads to points of waits alone, again and again."""
    machine, served, waits = house
    kept = {point: True for point in waits}
    while True:
        fewer = {point: True for point in kept if machine[2][point][served - 1][0] in kept}
        if len(fewer) == len(kept):
            return tuple(sorted(kept))
        kept = fewer


def turns_of(house, figures, many):
    """The things that get the first so many services."""
    turns = Turns(house, figures)
    return [turns.serve() for _ in range(many)]


def round_of(house, figures):
    """The things that get the services: those of a way, and then those of a round, again and again."""
    turns = Turns(house, figures)
    served = []
    came = {turns.stand(): 0}
    while len(served) < MOST_SERVICES:
        served.append(turns.serve())
        stand = turns.stand()
        if stand in came:
            return _shortest(served[:came[stand]], served[came[stand]:])
        came[stand] = len(served)
    raise TooMany(MOST_SERVICES)


def shares_of(house, figures):
    """How many services of the round each of the things gets."""
    _, ring = round_of(house, figures)
    return [(x, ring.count(x)) for x, _ in figures]


def served_ahead(house, x, y, count):
    """How many services a thing with the figure y gets ahead of the one of this number of that with the figure x."""
    way, ring = round_of(house, [("x", x), ("y", y)])
    if way.count("x") >= count:
        return _ahead_of(way, count)
    share = ring.count("x")
    if share == 0:
        return None
    further = count - way.count("x")
    whole = (further - 1) // share
    return way.count("y") + whole * ring.count("y") + _ahead_of(ring, further - whole * share)


def _ahead_of(served, count):
    """How many y there are ahead of the x of this number."""
    places = [at for at, who in enumerate(served) if who == "x"]
    return places[count - 1] - (count - 1)


def _shortest(way, ring):
    """The same services with the shortest way, and with the shortest round for it."""
    many = 1
    while ring[many:] + ring[:many] != ring:
        many += 1
    ring = ring[:many]
    while way and way[-1] == ring[-1]:
        way, ring = way[:-1], ring[-1:] + ring[:-1]
    return (way, ring)


class Turns:
    """Things that do nothing but being served, again and again."""

    def __init__(self, house, figures):
        self._machine, self._served, _ = house
        self._figures = {x: figure for x, figure in figures}
        self._now = max([moment for _, (_, times) in figures for moment in times]) + 1
        # All of them wait: the foremost one in the row is served.
        self._places = sorted([(self._place(x), x) for x in self._figures])

    def serve(self):
        """Serves the foremost thing, and returns it."""
        x = self._places.pop(0)[1]
        lead(self._machine, self._figures, self._served, x, self._now)
        entry = (self._place(x), x)
        self._places.insert(many_below(self._places, entry), entry)
        self._now += 1
        return x

    def stand(self):
        """The points of all things, and whose their live moments are, in the order of time."""
        figures = list(self._figures.values())
        moments = sorted([(moment, at) for at, (_, times) in enumerate(figures) for moment in times])
        return (tuple([point for point, _ in figures]), tuple([at for _, at in moments]))

    def _place(self, x):
        return place_by(self._machine, 0, self._figures[x])
