"""Machines: they lead each thing by its own past alone, and sort the rows by what they remember of it."""

from ownmoment.books import is_integer, is_thing, is_tuple_of, is_within
from ownmoment.errors import NoIndex

MOST_KINDS = 2
MOST_ROWS = 2
MOST_LIVE = 3
MOST_ENTRIES = 5


def is_machine(thing):
    """Whether it is a machine by form."""
    if not (is_tuple_of(thing, 3) and all([isinstance(part, tuple) for part in thing])):
        return False
    begins, points, moves = thing
    if not (1 <= len(begins) <= MOST_KINDS and len(points) > 0 and len(moves) == len(points)):
        return False
    if not (all([_is_point(point) for point in points]) and _are_rows(points)):
        return False
    if not all([is_within(point, 0, len(points) - 1) and points[point][1] == 1 for point in begins]):
        return False
    if not all([_is_move(points, point, move) for point, move in zip(points, moves)]):
        return False
    return all([len(move) == len(moves[0]) for move in moves]) and _are_labels(begins, points, moves)


def _is_point(thing):
    if not is_tuple_of(thing, 3):
        return False
    stands, live, label = thing
    if not (is_within(live, 1, MOST_LIVE) and isinstance(stands, tuple) and isinstance(label, tuple)):
        return False
    return 1 <= len(stands) <= MOST_ROWS and all([_is_place(stand, live) for stand in stands])


def _is_place(thing, live):
    if not is_tuple_of(thing, 3):
        return False
    rank, way, at = thing
    if not (is_integer(rank) and rank >= 0 and is_within(at, 0, live - 1)):
        return False
    return isinstance(way, str) and way in ("later", "earlier")


def _are_rows(points):
    """Whether there are equally many rows at all points, and one way for each rank of a row."""
    ways = {}
    for stands, _, _ in points:
        if len(stands) != len(points[0][0]):
            return False
        for row, (rank, way, _) in enumerate(stands):
            if ways.setdefault((row, rank), way) != way:
                return False
    return True


def _is_move(points, point, thing):
    if not (isinstance(thing, tuple) and len(thing) <= MOST_ENTRIES):
        return False
    return all([entry is None or _is_entry(points, point, entry) for entry in thing])


def _is_entry(points, point, thing):
    if not (is_tuple_of(thing, 2) and is_within(thing[0], 0, len(points) - 1)):
        return False
    behind, take = thing
    if not (is_tuple_of(take, points[behind][1]) and all([is_within(k, -1, point[1] - 1) for k in take])):
        return False
    kept = take[:-1] if take[-1] == -1 else take
    return -1 not in kept and all([kept[k] < kept[k + 1] for k in range(len(kept) - 1)])


def _are_labels(begins, points, moves):
    if all([label == () for _, _, label in points]):
        return True
    if not all([_is_label(label, len(begins)) for _, _, label in points]):
        return False
    if not all([points[point][2][0] == kind for kind, point in enumerate(begins)]):
        return False
    return all([entry is None or points[entry[0]][2][0] == points[at][2][0]
                for at, move in enumerate(moves) for entry in move])


def _is_label(thing, kinds):
    if not is_tuple_of(thing, 2):
        return False
    return is_within(thing[0], 0, kinds - 1) and is_integer(thing[1]) and thing[1] >= 0


def machine_kinds(machine):
    """How many kinds there are."""
    return len(machine[0])


def machine_deeds(machine):
    """How many deeds there are, coming counted."""
    return len(machine[2][0]) + 1


def machine_rows(machine):
    """How many rows there are."""
    return len(machine[1][0][0])


def first_barred(machine, run):
    """The index of the first tuple that the machine does not let, or None."""
    return _led(machine, {}, run, 0)


def point_behind(machine, kind, past):
    """The point of a thing that has come and done the deeds of past, or None."""
    point = machine[0][kind]
    for deed in past:
        entry = machine[2][point][deed - 1]
        if entry is None:
            return None
        point = entry[0]
    return point


def figures_of(machine, run):
    """The figures behind a run of the machine."""
    return led_on(machine, [], run, 0)


def led_on(machine, figures, run, now):
    """The figures behind further tuples, the first of which is done at the moment now."""
    there = {x: figure for x, figure in figures}
    barred = _led(machine, there, run, now)
    if barred is not None:
        raise NoIndex(barred)
    return [(x, there[x]) for x in sorted(there)]


def _led(machine, there, run, now):
    """Leads the figures on, as far as it is let; the index of the first tuple that is not, or None."""
    for at, (deed, x) in enumerate(run):
        if not can_lead(machine, there, deed, x):
            return at
        lead(machine, there, deed, x, now + at)
    return None


def can_lead(machine, there, deed, x):
    """Whether the machine lets (deed, x), there being a dict with the figures of what is there."""
    if deed == 0:
        return x not in there
    if x not in there:
        return False
    return deed == -1 or machine[2][there[x][0]][deed - 1] is not None


def lead(machine, there, deed, x, now):
    """Does (deed, x), which is let, at the moment now: there is changed."""
    if deed == 0:
        there[x] = (machine[0][x[0]], (now,))
    elif deed == -1:
        del there[x]
    else:
        point, times = there[x]
        behind, take = machine[2][point][deed - 1]
        there[x] = (behind, tuple([now if k == -1 else times[k] for k in take]))


def is_deed_of(machine, thing):
    """Whether it is -1 or a deed of the machine."""
    return is_within(thing, -1, machine_deeds(machine) - 1)


def are_points(machine, thing):
    """Whether it is an ascending tuple of points of the machine."""
    if not (isinstance(thing, tuple) and all([is_within(point, 0, len(machine[1]) - 1) for point in thing])):
        return False
    return all([thing[at] < thing[at + 1] for at in range(len(thing) - 1)])


def is_thing_led(machine, thing):
    """Whether it is a thing of a kind of the machine."""
    return is_thing(thing) and thing[0] < machine_kinds(machine)


def is_ahead_by(machine, row, one, other):
    """Whether a thing with the figure one is ahead of another one with the figure other."""
    return place_by(machine, row, one) < place_by(machine, row, other)


def place_by(machine, row, figure):
    """The rank and the moment of a thing, the moment such that the lesser one is ahead."""
    point, times = figure
    rank, way, at = machine[1][point][0][row]
    return (rank, -times[at] if way == "later" else times[at])


def stance_by(machine, row, figure):
    """The rank of a thing and the moment by which it stands."""
    point, times = figure
    rank, _, at = machine[1][point][0][row]
    return (rank, times[at])


def ways_in(machine, row):
    """For each rank in the row its way."""
    return {stands[row][0]: stands[row][1] for stands, _, _ in machine[1]}


def row_by(machine, row, figures):
    """The things as they stand in the row, the front first."""
    return [x for x, _ in sorted(figures, key=lambda one: place_by(machine, row, one[1]))]


def row_machine(machine, row):
    """The machine with the stands of this row alone, without labels."""
    begins, points, moves = machine
    return (begins, tuple([((stands[row],), live, ()) for stands, live, _ in points]), moves)
