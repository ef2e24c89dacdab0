"""Two machines side by side: whether they let the same runs and sort the rows alike, and where they part."""

from ownmoment.books import is_tuple_of
from ownmoment.errors import TooMany, Unlike
from ownmoment.machines import (
    figures_of, first_barred, is_ahead_by, is_deed_of, is_thing_led, machine_deeds, machine_kinds, machine_rows, row_by)

MOST_JOINTS = 6000
# More tuples than any run has that is looked for.
ENDLESS = 1000000000


def joint_points(one, other):
    """The ascending list of the joint points to which pasts lead that both machines let."""
    return sorted(all_joints(one, other))


def are_alike(one, other):
    """Whether two machines let the same runs and sort the rows alike."""
    return _are_alike_at(one, other, list(all_joints(one, other)))


def _are_alike_at(one, other, joints):
    rows = list(range(machine_rows(one)))
    return (all([_let_alike(one, other, joint) for joint in joints])
            and all([_stand_alike(one, other, row, joint) for row in rows for joint in joints])
            and all([_rank_alike(one, other, row, joints) for row in rows]))


def _let_alike(one, other, joint):
    mine, theirs = one[2][joint[0]], other[2][joint[1]]
    return [entry is None for entry in mine] == [entry is None for entry in theirs]


def _stand_alike(one, other, row, joint):
    """Whether both machines have the same way there and stand by the same moment."""
    return stand_at(one, row, joint, 0)[1:] == stand_at(other, row, joint, 1)[1:]


def _rank_alike(one, other, row, joints):
    """Whether the ranks in both machines ascend together."""
    pairs = sorted({(stand_at(one, row, joint, 0)[0], stand_at(other, row, joint, 1)[0]): True for joint in joints})
    return all([pairs[at][0] < pairs[at + 1][0] and pairs[at][1] < pairs[at + 1][1] for at in range(len(pairs) - 1)])


def parting_run(one, other):
    """A shortest run by which one sees that two machines are not alike, or None."""
    joints = all_joints(one, other)
    if _are_alike_at(one, other, list(joints)):
        return None
    unlike = [joint for joint in joints if not _let_alike(one, other, joint)]
    found = []
    if unlike:
        # The joint points stand in the order of the lengths of the runs that lead there.
        run = run_to(joints, unlike[0], 0)
        found.append(run + [_one_sided_tuple(one, other, unlike[0], run[0][1])])
    for row in range(machine_rows(one)):
        pair = least_overtaking(one, other, row, joints, joints)
        if pair is not None:
            found.append(overtaking_run(one, other, row, run_to(joints, pair[0], 0), run_to(joints, pair[1], 1)))
    return min(found, key=len)


def _one_sided_tuple(one, other, joint, x):
    """The first tuple that just one of the machines lets at the joint point."""
    entries = list(zip(one[2][joint[0]], other[2][joint[1]]))
    return ([(mine is None) != (theirs is None) for mine, theirs in entries].index(True) + 1, x)


def is_parting(one, other, thing):
    """Whether it is a list of tuples by the last of which one sees that the two machines are not alike."""
    refuse_unlike(one, other)
    if not (isinstance(thing, list) and all([_is_tuple_led(one, done) for done in thing])):
        return False
    last = len(thing) - 1
    barred = [first_barred(one, thing), first_barred(other, thing)]
    if barred == [None, None]:
        mine, theirs = figures_of(one, thing), figures_of(other, thing)
        return any([row_by(one, row, mine) != row_by(other, row, theirs) for row in range(machine_rows(one))])
    return barred == [None, last] or barred == [last, None]


def _is_tuple_led(machine, thing):
    return is_tuple_of(thing, 2) and is_deed_of(machine, thing[0]) and is_thing_led(machine, thing[1])


def refuse_unlike(one, other):
    """Raises Unlike unless two machines have as many kinds, deeds and rows."""
    if ([machine_kinds(one), machine_deeds(one), machine_rows(one)]
            != [machine_kinds(other), machine_deeds(other), machine_rows(other)]):
        raise Unlike()


def all_joints(one, other):
    """The joint points of things of all kinds, as joints_of has them."""
    refuse_unlike(one, other)
    return joints_of(one, other, list(range(machine_kinds(one))), MOST_JOINTS)


def joints_of(one, other, kinds, most):
    """For each joint point of things of these kinds a tuple (many, before, deed), the least many first.

    many is how many tuples a shortest run there has, before the joint point ahead of its last deed; for one
    that a thing comes to, before is None, and deed is the kind.
    """
    found = {}
    for kind in kinds:
        found.setdefault((one[0][kind], other[0][kind], (0,), (0,)), (1, None, kind))
    todo = list(found)
    at = 0
    while at < len(todo):
        joint = todo[at]
        for deed, behind in _joints_behind(one, other, joint):
            if behind in found:
                continue
            if len(found) == most:
                raise TooMany(most)
            found[behind] = (found[joint][0] + 1, joint, deed)
            todo.append(behind)
        at += 1
    return found


def _joints_behind(one, other, joint):
    """The tuples (deed, joint point behind it) of the deeds that both machines let there."""
    point, rival, mine, theirs = joint
    found = []
    for at, (entry, answer) in enumerate(zip(one[2][point], other[2][rival])):
        if entry is not None and answer is not None:
            # No moment has a greater index than the ones of a joint point have together.
            now = len(mine) + len(theirs)
            ours = [now if k == -1 else mine[k] for k in entry[1]]
            others = [now if k == -1 else theirs[k] for k in answer[1]]
            order = sorted({moment: True for moment in ours + others})
            found.append((at + 1, (entry[0], answer[0], tuple([order.index(moment) for moment in ours]),
                                   tuple([order.index(moment) for moment in others]))))
    return found


def run_to(joints, joint, number):
    """A shortest run that leads a thing with this number to the joint point."""
    deeds = []
    _, before, deed = joints[joint]
    while before is not None:
        deeds.append(deed)
        _, before, deed = joints[before]
    x = (deed, number)
    return [(0, x)] + [(done, x) for done in deeds[::-1]]


def stand_at(machine, row, joint, which):
    """How a thing stands in the row at the joint point: rank, way, and the moment as an index among all.

    machine is the first machine of the joint point, and which 0, or the second one, and which 1.
    """
    rank, way, at = machine[1][joint[which]][0][row]
    return (rank, way, joint[2 + which][at])


def least_overtaking(one, other, row, firsts, seconds):
    """Two joint points such that a thing at the first of them can be ahead, by the second machine alone, of
    one at the second of them, with the fewest tuples of all in firsts and seconds; None if there are none.
    """
    ranks = [sorted({stand_at(machine, row, joint, which)[0]: True for joint in list(firsts) + list(seconds)})
             for which, machine in enumerate((one, other))]
    movers = _least_by_stand(one, other, row, firsts, ranks, False)
    behind = _least_by_stand(one, other, row, seconds, ranks, True)
    none = (ENDLESS, None)
    best = (ENDLESS, None, None)
    # What stands as far back by the second machine as the column says, and further ahead by the first one.
    above = [none] * (len(ranks[1]) + 1)
    for mine in range(len(ranks[0])):
        table = [none] * (len(ranks[1]) + 1)
        for theirs in range(len(ranks[1]) - 1, -1, -1):
            others = min(above[theirs], table[theirs + 1])
            slow, fast = [behind.get((mine, theirs, is_open), none) for is_open in (False, True)]
            table[theirs] = min(others, slow, fast)
            for is_open in (False, True):
                x = movers.get((mine, theirs, is_open), none)
                y = min(others, fast, slow) if is_open else min(others, fast)
                best = min(best, (x[0] + y[0], x[1], y[1]))
        above = table
    return None if best[0] >= ENDLESS else best[1:]


def _least_by_stand(one, other, row, joints, ranks, is_behind):
    """For each tuple (index of the rank by one, by the other, is_open) the first (many, joint point).

    is_open tells whether there can be an overtaking among things with the same ranks in both machines because
    of this joint point, whatever the other one is.
    """
    places = [{value: at for at, value in enumerate(some)} for some in ranks]
    found = {}
    for joint, (many, _, _) in joints.items():
        rank, way, mine = stand_at(one, row, joint, 0)
        rival, rival_way, theirs = stand_at(other, row, joint, 1)
        # A thing overtakes if the second machine has it stand by the better moment, and is overtaken
        # if the second one has it stand by the worse moment.
        is_later_better = (way == "later") != is_behind
        is_open = way != rival_way or (theirs > mine if is_later_better else theirs < mine)
        found.setdefault((places[0][rank], places[1][rival], is_open), (many, joint))
    return found


def overtaking_run(one, other, row, ours, theirs):
    """A run of the tuples of two things behind which that of ours is ahead by the second machine alone."""
    x, y = ours[0][1], theirs[0][1]
    cuts = [_critical(machine, row, ours) + 1 for machine in (one, other)]
    runs = [ours[:cut] + theirs + ours[cut:] for cut in [0, len(ours)] + cuts]
    cuts = [_critical(machine, row, theirs) + 1 for machine in (one, other)]
    runs = runs + [theirs[:cut] + ours + theirs[cut:] for cut in cuts]
    return [run for run in runs
            if _is_ahead_behind(other, row, run, x, y) and not _is_ahead_behind(one, row, run, x, y)][0]


def _critical(machine, row, run):
    """The index of the tuple by which the one thing of a run stands."""
    _, (point, times) = figures_of(machine, run)[0]
    return times[machine[1][point][0][row][2]]


def _is_ahead_behind(machine, row, run, x, y):
    figures = {z: figure for z, figure in figures_of(machine, run)}
    return is_ahead_by(machine, row, figures[x], figures[y])
