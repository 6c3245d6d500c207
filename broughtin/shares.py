"""Shares: in which part of all ways somebody brought somebody."""

from broughtin.clubs import check_one, check_two, day_table
from broughtin.known import check_links, ways_with
from broughtin.ratios import NOTHING, exceeds, plus, ratio, times
from broughtin.ways import ways_of


def chances_by_day(club, table, owners):
    """For each day the share of the ways in which one who was brought on it was brought by an owner.

    owners are members' indices, table is the club's day_table.
    """
    held = NOTHING
    chances = {}
    for day, free, slack in table:
        # held is the mean number of the owners' slots that are free when the day begins.
        if slack < free:
            chances[day] = times(held, 1, free)
            held = times(held, slack, free)
        opened = sum([club[i][2] for i in owners if club[i][0] == day])
        held = plus(held, (opened, 1))
    return chances


def share_of(club, table, bringer, member):
    """The share of the ways with one link."""
    day, came, _ = club[member]
    if came == "alone":
        return NOTHING
    return chances_by_day(club, table, [bringer])[day]


def shares_of(club, member):
    """For each member of the club, in sequence, the share of the ways in which it brought this one."""
    table = day_table(club)
    return [share_of(club, table, bringer, member) for bringer in range(len(club))]


def joint_of(club, links):
    """The share of the ways with all of these links."""
    return ratio(ways_with(club, links), ways_of(club))


def share(club, bringer, member):
    """The share of the ways with this link."""
    check_two(club, bringer, member)
    return share_of(club, day_table(club), bringer, member)


def joint_share(club, links):
    """The share of the ways with all of the links."""
    check_links(club, links)
    return joint_of(club, links)


def surest(club, member):
    """Who brought the member in most ways, of several the least; None for those who came alone."""
    check_one(club, member)
    best, most = None, NOTHING
    for bringer, part in enumerate(shares_of(club, member)):
        if exceeds(part, most):
            best, most = bringer, part
    return best


def bringer_shares(club, member):
    """The ascending list of the tuples (bringer, top, bottom) of those who can have brought the member."""
    check_one(club, member)
    return [(i, part[0], part[1]) for i, part in enumerate(shares_of(club, member)) if part[0] > 0]
