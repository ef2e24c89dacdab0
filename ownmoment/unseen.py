"""Unseen: what can have been done between known figures and a row that is seen."""

from ownmoment.leading import can_follow, cheapest_to, states_behind, ways_to_stand
from ownmoment.machines import stance_by, ways_in


def sure_movers(machine, figures, row, things):
    """The things that do a deed in each run that leads to things, ascending, or None."""
    stances = _stances_to(machine, figures, row, things)
    if stances is None:
        return None
    return [x for x, figure in figures if stance_by(machine, row, figure) not in stances[x]]


def fewest_movers(machine, figures, row, things):
    """The tuple (number, run) of a run that leads to things in which the fewest things do a deed, or None."""
    return cheapest_to(machine, figures, row, things, _moves)


def _moves(deeds):
    """1 if there is a deed."""
    return min(len(deeds), 1)


def points_now(machine, figures, row, things):
    """The tuples (thing, points) of all points where it can be behind runs that lead to things, ascending, or None."""
    stances = _stances_to(machine, figures, row, things)
    if stances is None:
        return None
    found = []
    for x, figure in figures:
        points = {point: True for point, times, _ in states_behind(machine, figure)
                  if stance_by(machine, row, (point, times)) in stances[x]}
        found.append((x, tuple(sorted(points))))
    return found


def _stances_to(machine, figures, row, things):
    """For each thing the stances that it has behind some run that leads to things, or None if no run does."""
    ways = ways_in(machine, row)
    figure_of = {x: figure for x, figure in figures}
    options = [[(rank, moment) for rank, moment, _ in ways_to_stand(machine, figure_of[x], row)] for x in things]
    # First those that can be behind one of the thing ahead, then of these those that leave one to the thing behind.
    for at in range(1, len(things)):
        ahead = options[at - 1]
        options[at] = [one for one in options[at] if any([can_follow(ways, one, other) for other in ahead])]
    for at in range(len(things) - 1, 0, -1):
        behind = options[at]
        options[at - 1] = [one for one in options[at - 1] if any([can_follow(ways, other, one) for other in behind])]
    if not all(options):
        return None
    return {x: {one: True for one in some} for x, some in zip(things, options)}
