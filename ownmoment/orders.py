"""Orders: logs of which it is known in part what was done before what."""

from ownmoment.errors import TooMany
from ownmoment.machines import figures_of, stance_by, ways_in

MOST_ROWS = 1000


def critical_tuples(machine, log, row):
    """The tuples (thing, index of the tuple by which it stands in the row), ascending."""
    stances = _stances(machine, log, row)
    return [(x, index) for x, (_, index) in stances.items()]


def _stances(machine, log, row):
    """For each thing that is there, in ascending order, its rank and its critical tuple."""
    return {x: stance_by(machine, row, figure) for x, figure in figures_of(machine, log)}


def surely_ahead(machine, log, before, row):
    """The tuples (x, y) such that x is ahead of y behind the log in each order, ascending."""
    stances = _stances(machine, log, row)
    ways = ways_in(machine, row)
    first = _surely_before(log, before, [index for _, index in stances.values()])
    return [(x, y) for x, one in stances.items() for y, other in stances.items()
            if x != y and _is_surely_ahead(ways, first, one, other)]


def _is_surely_ahead(ways, first, one, other):
    if one[0] != other[0]:
        return one[0] < other[0]
    if ways[one[0]] == "later":
        return one[1] in first[other[1]]
    return other[1] in first[one[1]]


def _surely_before(log, before, some):
    """For each of some indexes those that come behind it in each order, as the keys of a dict."""
    behind = [[] for _ in log]
    for i, j, _ in _known_steps(log, before):
        behind[i].append(j)
    found = {}
    for start in some:
        found[start] = {}
        todo = list(behind[start])
        while todo:
            index = todo.pop()
            if index not in found[start]:
                found[start][index] = True
                todo.extend(behind[index])
    return found


def _known_steps(log, before):
    """The tuples (i, j, why): i has to be done before j, as both are of one thing or as it was told."""
    last = {}
    steps = []
    for index, (_, x) in enumerate(log):
        if x in last:
            steps.append((last[x], index, "own"))
        last[x] = index
    return steps + [(i, j, "told") for i, j in before]


def order_for_row(machine, log, before, row, things):
    """An order behind which the row is things, or None."""
    if _class_bar(_stances(machine, log, row), things) is not None:
        return None
    order = order_by(len(log), [(i, j) for i, j, _ in _all_steps(machine, log, before, row, things)])
    return order if len(order) == len(log) else None


def row_bar(machine, log, before, row, things):
    """What bars the row things, or None."""
    pair = _class_bar(_stances(machine, log, row), things)
    if pair is not None:
        return ("class", *pair)
    steps = _all_steps(machine, log, before, row, things)
    done = {index: True for index in order_by(len(log), [(i, j) for i, j, _ in steps])}
    return None if len(done) == len(log) else ("ring", _ring_of(steps, done))


def _class_bar(stances, things):
    """The first neighbours of things of which the one behind is of a class further ahead, or None."""
    for x, y in zip(things, things[1:]):
        if stances[y][0] < stances[x][0]:
            return (x, y)
    return None


def _all_steps(machine, log, before, row, things):
    """The tuples (i, j, why) of all that has to come in order, that the row is things among it."""
    stances = _stances(machine, log, row)
    ways = ways_in(machine, row)
    steps = _known_steps(log, before)
    for x, y in zip(things, things[1:]):
        rank, index = stances[x]
        if stances[y][0] == rank:
            pair = (stances[y][1], index) if ways[rank] == "later" else (index, stances[y][1])
            steps.append((*pair, "row"))
    return steps


def order_by(many, pairs):
    """The numbers below many, for each of the pairs (i, j) i before j; those that a ring bars are left out."""
    behind = [[] for _ in range(many)]
    waits = [0] * many
    for i, j in pairs:
        behind[i].append(j)
        waits[j] += 1
    order = [i for i in range(many) if waits[i] == 0]
    at = 0
    while at < len(order):
        here = order[at]
        for j in behind[here]:
            waits[j] -= 1
            if waits[j] == 0:
                order.append(j)
        at += 1
    return order


def _ring_of(steps, done):
    """A ring of steps between what is not done: to each of this leads a step from another one that is not."""
    into = {step[1]: step for step in steps if step[0] not in done}
    at = min(into)
    passed = {}
    path = []
    while at not in passed:
        passed[at] = len(path)
        path.append(into[at])
        at = into[at][0]
    return path[passed[at]:][::-1]


def rows_that_stand(machine, log, before, row):
    """The rows behind the log in all orders, ascending."""
    stances = _stances(machine, log, row)
    ways = ways_in(machine, row)
    things = list(stances)
    first = _surely_before(log, before, [index for _, index in stances.values()])
    # For each thing those whose critical tuples surely come behind its own one.
    behind = {x: {y: True for y in things if stances[y][1] in first[stances[x][1]]} for x in things}
    found = [((), behind)]
    for rank in sorted(ways):
        some = [x for x in things if stances[x][0] == rank]
        for _ in some:
            found = [further for stand in found for further in _further_rows(stand, some, ways[rank])]
            # Each beginning of a row is that of some row, so that there are no fewer in the end.
            if len(found) > MOST_ROWS:
                raise TooMany(MOST_ROWS)
    return [stand[0] for stand in found]


def _further_rows(stand, some, way):
    """The stands (row, behind) with one more of some things of a class, each of them in turn where it can be."""
    row, behind = stand
    left = [x for x in some if x not in row]
    found = []
    for x in left:
        others = [y for y in left if y != x]
        if way == "later" and not any([y in behind[x] for y in others]):
            found.append((row + (x,), _with_before(behind, others, [x])))
        elif way == "earlier" and not any([x in behind[y] for y in others]):
            found.append((row + (x,), _with_before(behind, [x], others)))
    return found


def _with_before(behind, firsts, seconds):
    """What is surely behind each thing if, besides, all of firsts come before all of seconds."""
    gained = {y: True for x in seconds for y in [x] + list(behind[x])}
    found = {}
    for x, some in behind.items():
        is_before = x in firsts or any([y in some for y in firsts])
        found[x] = {**some, **gained} if is_before else some
    return found
