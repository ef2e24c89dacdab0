"""Which things can be ahead of which, by one machine and by two."""

from ownmoment.alike import MOST_JOINTS, all_joints, joints_of, least_overtaking, overtaking_run, run_to, stand_at
from ownmoment.machines import figures_of, row_by


def run_ahead(machine, row, kind, rival):
    """A shortest run behind which (kind, 0) is ahead of (rival, 1) in the row, or None."""
    # By one machine twice there are just as many joint points as points.
    points = len(machine[1])
    ours = joints_of(machine, machine, (kind,), points)
    theirs = joints_of(machine, machine, (rival,), points)
    first, second = _least_by_rank(machine, row, ours), _least_by_rank(machine, row, theirs)
    found = [(ours[first[rank]][0] + theirs[second[other]][0], rank, other)
             for rank in first for other in second if rank <= other]
    if not found:
        return None
    _, rank, other = min(found)
    x, y = run_to(ours, first[rank], 0), run_to(theirs, second[other], 1)
    # In one class it hangs on who comes last; otherwise any order is right.
    if row_by(machine, row, figures_of(machine, x + y))[0] == (kind, 0):
        return x + y
    return y + x


def _least_by_rank(machine, row, joints):
    """For each rank the joint point with the shortest run."""
    found = {}
    for joint in joints:
        found.setdefault(stand_at(machine, row, joint, 0)[0], joint)
    return found


def never_worse(one, other, row, kind, rival):
    """A shortest run behind which (kind, 0) is ahead of (rival, 1) by the second machine alone, or None."""
    # All of them are looked for first, as there may be too many.
    all_joints(one, other)
    ours = joints_of(one, other, (kind,), MOST_JOINTS)
    theirs = joints_of(one, other, (rival,), MOST_JOINTS)
    pair = least_overtaking(one, other, row, ours, theirs)
    if pair is None:
        return None
    return overtaking_run(one, other, row, run_to(ours, pair[0], 0), run_to(theirs, pair[1], 1))
