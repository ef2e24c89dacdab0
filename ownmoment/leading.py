"""Leading: the fewest deeds behind which a row stands as it is wished."""

from ownmoment.books import is_integer, is_tuple_of
from ownmoment.machines import stance_by, ways_in


def ways_to_stand(machine, figure, row):
    """The tuples (rank, moment, deeds) of the stances to which a thing can come, with the fewest deeds, ascending."""
    found = {}
    for point, times, deeds in states_behind(machine, figure):
        found.setdefault(stance_by(machine, row, (point, times)), deeds)
    return [(rank, moment, found[(rank, moment)]) for rank, moment in sorted(found)]


def states_behind(machine, figure):
    """The tuples (point, times, deeds) of all that a thing can come to, with the fewest deeds, of these the least.

    They stand in the order of these deeds. Times behind all of the figure are -1.
    """
    found = [(*figure, ())]
    seen = {figure: True}
    at = 0
    while at < len(found):
        point, times, deeds = found[at]
        for which, entry in enumerate(machine[2][point]):
            if entry is None:
                continue
            state = (entry[0], tuple([-1 if k == -1 else times[k] for k in entry[1]]))
            if state not in seen:
                seen[state] = True
                found.append((*state, deeds + (which + 1,)))
        at += 1
    return found


def can_follow(ways, one, other):
    """Whether the stance one can be behind the stance other, ways having the way of each rank."""
    rank, moment = one
    if rank != other[0]:
        return rank > other[0]
    if ways[rank] == "later":
        return other[1] == -1 or (moment != -1 and moment < other[1])
    return moment == -1 or (other[1] != -1 and moment > other[1])


def fewest_to(machine, figures, row, things):
    """The tuple (number, run) of a run with the fewest tuples that leads to things, or None."""
    return cheapest_to(machine, figures, row, things, _many)


def _many(deeds):
    return len(deeds)


def cheapest_to(machine, figures, row, things, price):
    """The tuple (number, run) of a run that leads to things for which the prices of the deeds are least, or None."""
    ways = ways_in(machine, row)
    chosen = []
    number = 0
    for at, prices in enumerate(_priced_to(machine, figures, row, things, price)):
        fitting = [one for one in prices if not chosen or can_follow(ways, one[:2], chosen[-1][1:3])]
        if not fitting:
            return None
        rank, moment, deeds, own, _ = min(fitting, key=lambda one: one[4])
        chosen.append((things[at], rank, moment, deeds))
        number += own
    return (number, run_with(ways, [(x, rank, deeds) for x, rank, _, deeds in chosen]))


def run_with(ways, chosen):
    """A run in which things do their deeds; chosen has tuples (thing, rank, deeds), the front first.

    Of things of one class the one that is to be ahead does all of its deeds first, or last: so the moments
    of these deeds come in the wished order.
    """
    firsts = [(x, deeds) for x, rank, deeds in chosen if ways[rank] == "earlier"]
    lasts = [(x, deeds) for x, rank, deeds in chosen if ways[rank] == "later"]
    return [(deed, x) for x, deeds in firsts + lasts[::-1] for deed in deeds]


def prices_to(machine, figures, row, things):
    """For each of things the tuples (rank, moment, own, total) of the ways by which the others can stand behind it."""
    return [[(rank, moment, own, total) for rank, moment, _, own, total in prices]
            for prices in _priced_to(machine, figures, row, things, _many)]


def _priced_to(machine, figures, row, things, price):
    """For each of things the tuples (rank, moment, deeds, own, total): own is the price of the deeds."""
    ways = ways_in(machine, row)
    figure_of = {x: figure for x, figure in figures}
    found = []
    for x in things[::-1]:
        prices = []
        for rank, moment, deeds in ways_to_stand(machine, figure_of[x], row):
            own = price(deeds)
            if not found:
                prices.append((rank, moment, deeds, own, own))
                continue
            behind = [one[4] for one in found[-1] if can_follow(ways, one[:2], (rank, moment))]
            if behind:
                prices.append((rank, moment, deeds, own, own + min(behind)))
        found.append(prices)
    return found[::-1]


def is_price_table(machine, figures, row, things, table):
    """Whether it is what prices_to returns."""
    if not (isinstance(table, list) and all([_are_prices(prices) for prices in table])):
        return False
    return table == prices_to(machine, figures, row, things)


def _are_prices(thing):
    return isinstance(thing, list) and all([is_tuple_of(one, 4) and all([is_integer(k) for k in one]) for one in thing])
