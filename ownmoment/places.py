"""Places: the fewest deeds behind which a thing has fewer, or more, things ahead of it."""

from ownmoment.books import GREATEST_NUMBER
from ownmoment.errors import NotThere
from ownmoment.leading import can_follow, run_with, ways_to_stand
from ownmoment.machines import stance_by, ways_in


def fewest_into(machine, figures, row, thing, many):
    """The tuple (number, run) of a run with the fewest tuples behind which fewer than many are ahead, or None."""
    figure = _figure_of(figures, thing)
    ways = ways_in(machine, row)
    others = [(x, ways_to_stand(machine, other, row)) for x, other in figures if x != thing]
    # The others may be ahead, or anywhere, without any deed.
    needed = max(len(figures) - many, 0)
    best = None
    for rank, moment, deeds in ways_to_stand(machine, figure, row):
        plans = []
        for x, options in others:
            fitting = [(len(own), x, place, own) for place, when, own in options
                       if can_follow(ways, (place, when), (rank, moment))]
            plans.extend([min(fitting)] if fitting else [])
        chosen = sorted(plans)[:needed]
        number = len(deeds) + sum([plan[0] for plan in chosen])
        if len(chosen) == needed and (best is None or number < best[0]):
            best = (number, run_with(ways, [(thing, rank, deeds)] + [plan[1:] for plan in chosen]))
    return best


def fewest_out(machine, figures, row, thing, many, comers):
    """The tuple (number, run) of a run without tuples of the thing behind which many or more are ahead, or None."""
    stance = stance_by(machine, row, _figure_of(figures, thing))
    found = []
    for x, figure in figures:
        plan = _plan_ahead(machine, row, figure, stance) if x != thing else None
        if plan is not None:
            found.append((len(plan), x, plan))
    chosen = sorted(found + _comers_ahead(machine, figures, row, stance, comers))[:many]
    if len(chosen) < many:
        return None
    return (sum([number for number, _, _ in chosen]), [(deed, x) for _, x, deeds in chosen for deed in deeds])


def _plan_ahead(machine, row, figure, stance):
    """The fewest deeds behind which a thing with the figure is ahead of one with the stance, or None."""
    ways = ways_in(machine, row)
    fitting = [(len(deeds), deeds) for rank, moment, deeds in ways_to_stand(machine, figure, row)
               if can_follow(ways, stance, (rank, moment))]
    return min(fitting)[1] if fitting else None


def _comers_ahead(machine, figures, row, stance, comers):
    """For the comers that need least the tuples (number of deeds, thing, deeds), coming among them."""
    found = []
    for kind, begin in enumerate(machine[0]):
        # A thing that comes has no moment but one that is behind all others.
        plan = _plan_ahead(machine, row, (begin, (-1,)), stance)
        if plan is not None:
            taken = {x[1]: True for x, _ in figures if x[0] == kind}
            upto = min(len(taken) + comers, GREATEST_NUMBER + 1)
            free = [number for number in range(upto) if number not in taken][:comers]
            found.extend([(len(plan) + 1, (kind, number), (0,) + plan) for number in free])
    return sorted(found)[:comers]


def _figure_of(figures, thing):
    """The figure of the thing; it may be none of figures."""
    for x, figure in figures:
        if x == thing:
            return figure
    raise NotThere(thing)
