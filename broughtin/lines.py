"""Lines: who can be below whom, in how many steps, and in which share of the ways.

The links of a chain do not hinder one another, so a chain can be if each of
its links can be, and its share is the product of theirs.
"""

from broughtin.clubs import check_club, check_one, check_possible, check_two, day_table
from broughtin.errors import NoLink
from broughtin.known import least_way_with
from broughtin.links import candidates, full_days, plain_reason
from broughtin.ratios import NOTHING, WHOLE, plus, times, total_of


def has_go_between(club, day):
    """Whether a brought member of this day has a number that is not 0."""
    return any([row[0] == day and row[1] == "brought" and row[2] > 0 for row in club])


def line_reason(club, above, below):
    """The first reason why no way has the one below the other, or None if one has it."""
    reason = plain_reason(club, above, below)
    if reason is not None:
        return reason
    for day in full_days(club):
        # No link spans a closing day, so a chain across it rests on a member of that day.
        if club[above][0] < day < club[below][0] and not has_go_between(club, day):
            return ("closing", day)
    return None


def add_slots(held, number, chances):
    """Add the slots of one member to what is held, by the steps that lead to the member."""
    for steps, part in chances.items():
        held[steps] = plus(held.get(steps, NOTHING), times(part, number, 1))


def step_chances(club, starts):
    """For each member a dict: for each number of steps that can lead to it from one of the starts, the share."""
    chances = [{} for _ in club]
    # held tells, by steps, the mean number of free slots that are held so many steps below a start.
    held = {}
    for day, free, slack in day_table(club):
        today = [i for i, row in enumerate(club) if row[0] == day]
        for i in today:
            if i in starts:
                chances[i] = {0: WHOLE}
            elif club[i][1] == "brought":
                chances[i] = {steps + 1: times(part, 1, free) for steps, part in held.items()}
        if slack == 0:
            held = {}
        elif slack < free:
            held = {steps: times(part, slack, free) for steps, part in held.items()}
        for i in today:
            if club[i][2] > 0:
                add_slots(held, club[i][2], chances[i])
    return chances


def chances_below(club, above, below):
    """For each number of steps by which the one can be below the other, the share."""
    # Nobody is below itself, though no step leads from a start to itself.
    if above == below:
        return {}
    return step_chances(club, [above])[below]


def depth_chances(club):
    """For each member a dict: for each number of steps from one who came alone, the share."""
    return step_chances(club, [i for i, row in enumerate(club) if row[1] == "alone"])


def chain_of(club, chances, below, steps):
    """The links of a chain of so many steps from the start of the chances down to a member."""
    closings = full_days(club)
    links = []
    lower = below
    for rest in reversed(range(steps)):
        upper = [i for i in candidates(club, closings, lower) if rest in chances[i]]
        links.append((upper[0], lower))
        lower = upper[0]
    return links


def can_descend(club, above, below):
    """Whether some way has the second one below the first one."""
    check_two(club, above, below)
    return line_reason(club, above, below) is None


def descend_paper(club, above, below):
    """None if some way has the second one below the first one, else the first reason against it."""
    check_two(club, above, below)
    return line_reason(club, above, below)


def step_range(club, above, below):
    """The least and the greatest number of steps by which the one can be below the other, or None."""
    check_two(club, above, below)
    steps = sorted(chances_below(club, above, below))
    if not steps:
        return None
    return (steps[0], steps[-1])


def line_with(club, above, below, steps):
    """A way in which the one is so many steps below the other."""
    check_two(club, above, below)
    if steps not in chances_below(club, above, below):
        raise NoLink("no way has so many steps between the two")
    return least_way_with(club, chain_of(club, step_chances(club, [above]), below, steps))


def depths_of(club, member):
    """The ascending list of the numbers of steps that can lead to a member from one who came alone."""
    check_one(club, member)
    return sorted(depth_chances(club)[member])


def generations(club):
    """The greatest number of steps that can lead to a member from one who came alone."""
    check_club(club)
    check_possible(club)
    return max([max(chances) for chances in depth_chances(club)])


def descent_share(club, above, below):
    """The share of the ways in which the second one is below the first one."""
    check_two(club, above, below)
    return total_of(list(chances_below(club, above, below).values()))


def depth_shares(club, member):
    """The ascending list of the tuples (steps, top, bottom) for the depths of a member."""
    check_one(club, member)
    chances = depth_chances(club)[member]
    return [(steps, chances[steps][0], chances[steps][1]) for steps in sorted(chances)]


def mean_below(club, member):
    """The mean number of members below a member, over all ways."""
    check_one(club, member)
    mean = NOTHING
    for i, chances in enumerate(step_chances(club, [member])):
        if i != member:
            mean = plus(mean, total_of(list(chances.values())))
    return mean
