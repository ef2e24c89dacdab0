"""Logs: runs of a machine, and what of them makes no difference for what comes."""

from ownmoment.errors import NoIndex
from ownmoment.machines import figures_of, first_barred


def meeting_moments(machine, one, other):
    """The tuples (i, j) of a live moment of each of two points that can meet, ascending."""
    mine = [_classes_by(machine, one, moment) for moment in range(machine[1][one][1])]
    theirs = [_classes_by(machine, other, moment) for moment in range(machine[1][other][1])]
    return [(i, j) for i, some in enumerate(mine) for j, others in enumerate(theirs)
            if any([place in others for place in some])]


def _classes_by(machine, point, moment):
    """The tuples (row, rank) of the classes where a thing stands by this live moment, now or later, in a dict."""
    found = {}
    todo = [(point, moment)]
    seen = {(point, moment): True}
    while todo:
        here, live = todo.pop()
        for row, (rank, _, at) in enumerate(machine[1][here][0]):
            if at == live:
                found[(row, rank)] = True
        for entry in machine[2][here]:
            if entry is not None and live in entry[1]:
                behind = (entry[0], entry[1].index(live))
                if behind not in seen:
                    seen[behind] = True
                    todo.append(behind)
    return found


def are_alike_logs(machine, one, other):
    """Whether behind two logs the same things are at the same points, with the same order of what can meet."""
    return Meetings(machine).are_alike(figures_of(machine, one), figures_of(machine, other))


class Meetings:
    """The live moments of points that can meet; those of the same points are asked for again and again."""

    def __init__(self, machine):
        self._machine = machine
        self._known = {}

    def are_alike(self, mine, theirs):
        """Whether logs with these figures behind them are alike."""
        if [(x, figure[0]) for x, figure in mine] != [(x, figure[0]) for x, figure in theirs]:
            return False
        both = [(figure[0], figure[1], other[1]) for (_, figure), (_, other) in zip(mine, theirs)]
        return all([self._are_in_one_order(x, y) for at, x in enumerate(both) for y in both[:at]])

    def _are_in_one_order(self, x, y):
        """Whether the live moments of two things that can meet come in one order by their times in both logs."""
        point, first, second = x
        rival, others, rivals = y
        return all([(first[i] < others[j]) == (second[i] < rivals[j]) for i, j in self._between(point, rival)])

    def _between(self, point, rival):
        if (point, rival) not in self._known:
            self._known[(point, rival)] = meeting_moments(self._machine, point, rival)
        return self._known[(point, rival)]


def can_swap(machine, log, index):
    """Whether the tuples index and index + 1 are of two things, and make no difference the other way about."""
    if not 0 <= index < len(log) - 1:
        raise NoIndex(index)
    first, second = log[index:index + 2]
    if first[1] == second[1]:
        return False
    return are_alike_logs(machine, log[:index + 2], log[:index] + [second, first])


def shortest_past(machine, kind, point):
    """The fewest deeds, of these the least, that lead a thing behind its coming to the point, or None."""
    begin = machine[0][kind]
    pasts = {begin: []}
    todo = [begin]
    at = 0
    while at < len(todo) and point not in pasts:
        here = todo[at]
        for which, entry in enumerate(machine[2][here]):
            if entry is not None and entry[0] not in pasts:
                pasts[entry[0]] = pasts[here] + [which + 1]
                todo.append(entry[0])
        at += 1
    return pasts.get(point)


def own_log(machine, x, point):
    """A log of x alone with the fewest tuples that leads it to the point, to which things of its kind come."""
    return [(0, x)] + [(deed, x) for deed in shortest_past(machine, x[0], point)]


def least_log(machine, log):
    """A log with the fewest tuples that is alike to log."""
    figures = figures_of(machine, log)
    todo = {x: own_log(machine, x, figure[0]) for x, figure in figures}
    # For each live moment how many of the thing's own tuples are to be done then.
    upto = {x: [at + 1 for at in figures_of(machine, todo[x])[0][1][1]] for x in todo}
    found = []
    done = {x: 0 for x in todo}
    moments = [(moment, x, upto[x][k]) for x, figure in figures for k, moment in enumerate(figure[1])]
    for _, x, many in sorted(moments):
        found.extend(todo[x][done[x]:many])
        done[x] = many
    return found + [one for x in todo for one in todo[x][done[x]:]]


def spare_tuples(machine, log):
    """The indexes of the tuples that may be left out, each by itself."""
    meetings = Meetings(machine)
    figures = figures_of(machine, log)
    found = []
    for index in range(len(log)):
        rest = log[:index] + log[index + 1:]
        if first_barred(machine, rest) is None and meetings.are_alike(figures, figures_of(machine, rest)):
            found.append(index)
    return found
