"""Serving: how many services others get while one thing waits for its first one."""

from ownmoment.books import is_tuple_of, is_within
from ownmoment.errors import Endless, NoWay
from ownmoment.machines import are_points, is_machine, lead, machine_deeds, place_by


def is_house(thing):
    """Whether it is a machine, a deed of it, and points at which this deed is let."""
    if not (is_tuple_of(thing, 3) and is_machine(thing[0]) and is_within(thing[1], 1, machine_deeds(thing[0]) - 1)):
        return False
    machine, served, waits = thing
    if not (are_points(machine, waits) and len(waits) > 0):
        return False
    return all([machine[2][point][served - 1] is not None for point in waits])


class Wait:
    """What another thing can do while one waits: it goes from state to state.

    A state is a tuple (point, early): early is how many of the live moments are earlier than the moment by
    which the one that waits stands. All that is done from now on is later than this moment.
    """

    def __init__(self, house, figure):
        self._machine, self._served, self._waits = house
        self._rank, way, at = self._machine[1][figure[0]][0][0]
        self._is_later_ahead = way == "later"
        self._moment = figure[1][at]
        self._states = [(point, early) for point, (_, live, _) in enumerate(self._machine[1])
                        for early in range(live + 1)]
        self._before = {state: [] for state in self._states}
        for state in self._states:
            for _, behind in self.free_steps(state):
                self._before[behind].append(state)

    def state_of(self, figure):
        """The state of another thing with this figure."""
        return (figure[0], len([moment for moment in figure[1] if moment < self._moment]))

    def behind(self, state, deed):
        """The state behind a deed, or None if it is not let."""
        entry = self._machine[2][state[0]][deed - 1]
        if entry is None:
            return None
        return (entry[0], len([k for k in entry[1] if 0 <= k < state[1]]))

    def free_steps(self, state):
        """The tuples (deed, state behind it) of all deeds that are let there, but for being served."""
        steps = [(deed, self.behind(state, deed)) for deed in range(1, machine_deeds(self._machine))]
        return [(deed, behind) for deed, behind in steps if deed != self._served and behind is not None]

    def is_next(self, state):
        """Whether a thing there would be served ahead of the one that waits."""
        point, early = state
        if point not in self._waits:
            return False
        rank, _, at = self._machine[1][point][0][0]
        if rank != self._rank:
            return rank < self._rank
        return (at >= early) == self._is_later_ahead

    def greatest(self):
        """For each state the greatest number of services, None if there is no greatest one."""
        found = {state: 0 for state in self._states}
        many = 1
        some = self._that_lead_to(self._served_into(found))
        before = len(found)
        while some:
            # If these are as many as before, each service leads to one more of them.
            is_endless = len(some) == before
            for state in some:
                found[state] = None if is_endless else many
            many += 1
            before = len(some)
            some = {} if is_endless else self._that_lead_to(self._served_into(some))
        return found

    def fewest(self):
        """For each state the least number of services until another thing is served, None if it never is."""
        found = {state: None for state in self._states}
        many = 0
        some = self._that_lead_to([state for state in self._states if not self.is_next(state)])
        while some:
            for state in some:
                found[state] = many
            many += 1
            nearer = self._that_lead_to(self._served_into(some))
            some = {state: True for state in nearer if found[state] is None}
        return found

    def _served_into(self, some):
        """The states where the other thing would be served, and by this comes to one of some."""
        return [state for state in self._states if self.is_next(state) and self.behind(state, self._served) in some]

    def _that_lead_to(self, goals):
        """All states from which free steps lead to one of the goals, perhaps none, as the keys of a dict."""
        found = {state: True for state in goals}
        todo = list(goals)
        while todo:
            for state in self._before[todo.pop()]:
                if state not in found:
                    found[state] = True
                    todo.append(state)
        return found

    def way_to(self, state, goals):
        """The fewest free steps from the state to one of the goals, as deeds, and this one."""
        todo = [(state, [])]
        seen = {state: True}
        at = 0
        while todo[at][0] not in goals:
            here, deeds = todo[at]
            for deed, behind in self.free_steps(here):
                if behind not in seen:
                    seen[behind] = True
                    todo.append((behind, deeds + [deed]))
            at += 1
        return todo[at][1], todo[at][0]

    def served_way(self, state, numbers, number):
        """The fewest deeds from the state to a service behind which the number is this one, and the state there."""
        goals = {one: True for one in self._states
                 if self.is_next(one) and numbers[self.behind(one, self._served)] == number}
        deeds, there = self.way_to(state, goals)
        return deeds + [self._served], self.behind(there, self._served)

    def most_plan(self, state, numbers):
        """Deeds that bring the greatest number of services."""
        plan = []
        while numbers[state] > 0:
            deeds, state = self.served_way(state, numbers, numbers[state] - 1)
            plan.extend(deeds)
        return plan

    def least_plan(self, state, numbers):
        """Deeds with the least number of services behind which the thing that waits is served."""
        plan = []
        while numbers[state] > 0:
            deeds, state = self.served_way(state, numbers, numbers[state] - 1)
            plan.extend(deeds)
        goals = {one: True for one in self._states if not self.is_next(one)}
        return plan + self.way_to(state, goals)[0]


def most_alone(house, x, y):
    """The greatest number of services that a thing with the figure y gets, None if there is no greatest one."""
    wait = Wait(house, x)
    return wait.greatest()[wait.state_of(y)]


def least_alone(house, x, y):
    """The least number of services that a thing with the figure y gets, None if that with the figure x gets none."""
    wait = Wait(house, x)
    return wait.fewest()[wait.state_of(y)]


def most_comer(house, x, kind):
    """The greatest number of services of a new thing of this kind, None if there is no greatest one."""
    return Wait(house, x).greatest()[_comer(house, kind)]


def _comer(house, kind):
    """The state of a new thing: its one moment is later than all others."""
    return (house[0][0][kind], 0)


def most_services(house, figures, thing, comers):
    """The greatest number of services that all others get ahead of the thing, None if there is no greatest one."""
    wait = Wait(house, _figure_of(figures, thing))
    most = wait.greatest()
    total = 0
    states = [(wait.state_of(figure), 1) for x, figure in figures if x != thing]
    for state, many in states + [(_comer(house, kind), many) for kind, many in enumerate(comers)]:
        if many > 0 and most[state] is None:
            return None
        if many > 0:
            total += many * most[state]
    return total


def least_services(house, figures, thing):
    """The least number of services of others ahead of that of the thing, None if it is never served."""
    wait = Wait(house, _figure_of(figures, thing))
    least = wait.fewest()
    found = [least[wait.state_of(figure)] for x, figure in figures if x != thing]
    return None if None in found else sum(found)


def _figure_of(figures, thing):
    return [figure for x, figure in figures if x == thing][0]


def most_run(house, figures, thing, comers):
    """Tuples that go on from figures and bring the greatest number of services of others."""
    if most_services(house, figures, thing, comers) is None:
        raise Endless()
    wait = Wait(house, _figure_of(figures, thing))
    most = wait.greatest()
    plans = {x: wait.most_plan(wait.state_of(figure), most) for x, figure in figures if x != thing}
    for kind, many in enumerate(comers):
        taken = {x[1]: True for x, _ in figures if x[0] == kind}
        free = [number for number in range(len(taken) + many) if number not in taken]
        for number in free[:many]:
            plans[(kind, number)] = [0] + wait.most_plan(_comer(house, kind), most)
    return _played(house, figures, plans)


def least_run(house, figures, thing):
    """Tuples that go on from figures and bring the least number of services of others, and then that of the thing."""
    if least_services(house, figures, thing) is None:
        raise NoWay()
    wait = Wait(house, _figure_of(figures, thing))
    least = wait.fewest()
    plans = {x: wait.least_plan(wait.state_of(figure), least) for x, figure in figures if x != thing}
    return _played(house, figures, plans) + [(house[1], thing)]


def _played(house, figures, plans):
    """A run in which each thing does the deeds of its plan, and a service is always one of the foremost.

    Things whose plan is done are not ahead of the one that waits: so the foremost one is one that plans it.
    """
    machine, served, waits = house
    there = {x: figure for x, figure in figures}
    now = max([moment for _, (_, times) in figures for moment in times]) + 1
    todo = {x: plan[::-1] for x, plan in plans.items() if plan}
    run = []
    while todo:
        ready = [x for x in todo if todo[x][-1] != served]
        if not ready:
            waiting = [x for x in there if there[x][0] in waits]
            ready = [min(waiting, key=lambda y: place_by(machine, 0, there[y]))]
        for x in ready:
            deed = todo[x].pop()
            lead(machine, there, deed, x, now + len(run))
            run.append((deed, x))
        todo = {x: todo[x] for x in todo if todo[x]}
    return run


def endless_ring(house, x, y):
    """Deeds of y that lead to a ring of deeds with a service, and this ring, or None if there is a greatest number."""
    wait = Wait(house, x)
    most = wait.greatest()
    state = wait.state_of(y)
    if most[state] is not None:
        return None
    deeds = []
    # How many deeds lead to each state behind a service.
    passed = {}
    while state not in passed:
        passed[state] = len(deeds)
        further, state = wait.served_way(state, most, None)
        deeds = deeds + further
    return (deeds[:passed[state]], deeds[passed[state]:])


def is_endless_ring(house, x, y, thing):
    """Whether it is a tuple of two lists of deeds, the second one of which y can do again and again, with a service."""
    if not (is_tuple_of(thing, 2) and all([_are_deeds(house, deeds) for deeds in thing])):
        return False
    wait = Wait(house, x)
    state = _gone(house, wait, wait.state_of(y), thing[0])
    return state is not None and house[1] in thing[1] and _gone(house, wait, state, thing[1]) == state


def _are_deeds(house, thing):
    return isinstance(thing, list) and all([is_within(deed, 1, machine_deeds(house[0]) - 1) for deed in thing])


def _gone(house, wait, state, deeds):
    """The state behind the deeds, or None if one of them cannot be done, or is a service out of turn."""
    for deed in deeds:
        if deed == house[1] and not wait.is_next(state):
            return None
        state = wait.behind(state, deed)
        if state is None:
            return None
    return state
