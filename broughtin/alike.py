"""Alike: clubs that have the same ways.

A list of bringers with the right numbers is a way if each of its links can
be. So two clubs have the same ways if the same links can be in both, and
everybody has the same number.
"""

from broughtin.clubs import all_days, check_club, check_possible
from broughtin.known import least_way_with
from broughtin.links import all_candidates
from broughtin.ways import numbers_in, way_at


def check_both(club, other):
    """Check the arguments of a question about two possible clubs."""
    check_club(club)
    check_club(other)
    check_possible(club)
    check_possible(other)


def missing_link(bringers, others):
    """The first link that is among the bringers of each member, but not among the others; None if there is none."""
    for member, row in enumerate(bringers):
        for bringer in row:
            if bringer not in others[member]:
                return (bringer, member)
    return None


def way_apart(club, other):
    """A tuple of "first" or "second" and a way that only this club has, or None."""
    if numbers_in(club) != numbers_in(other):
        return ("first", way_at(club, 0))
    bringers, others = all_candidates(club), all_candidates(other)
    link = missing_link(bringers, others)
    if link is not None:
        return ("first", least_way_with(club, [link]))
    link = missing_link(others, bringers)
    if link is not None:
        return ("second", least_way_with(other, [link]))
    return None


def latest_bringer_days(club):
    """For each day of the club, ascending, the latest day of those who can have brought somebody on it, or -1."""
    bringers = all_candidates(club)
    latest = []
    for day in all_days(club):
        today = [member for member, row in enumerate(club) if row[0] == day]
        latest.append(max([-1] + [club[i][0] for member in today for i in bringers[member]]))
    return latest


def plain_days(club):
    """For each day of the club the number of the group of neighbouring days that it is put into."""
    groups = {}
    # Nobody was brought on the first day, so the first group goes on from there.
    start, number = 0, 0
    for day, latest in zip(all_days(club), latest_bringer_days(club)):
        # Days can be put together as long as no link that can be lies within them.
        if latest >= start:
            start = day
            number += 1
        groups[day] = number
    return groups


def same_ways(club, other):
    """Whether both clubs have the same ways."""
    check_both(club, other)
    return way_apart(club, other) is None


def parting_way(club, other):
    """None if both have the same ways, else "first" or "second" and a way that only this club has."""
    check_both(club, other)
    return way_apart(club, other)


def plain_club(club):
    """The club with the same ways and as few days as can be, told as 0, 1, 2 and so on."""
    check_club(club)
    check_possible(club)
    groups = plain_days(club)
    return [(groups[day], came, number) for day, came, number in club]
