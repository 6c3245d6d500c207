"""Sets: whom one can have brought, all together.

The members of a set are known links of one bringer. Behind each day no more
of them may be left than the slack of that day.
"""

from broughtin.clubs import (
    brought_behind, check_club, check_group, check_index, check_member, check_one, check_possible, slack_on,
)
from broughtin.errors import InvalidGroup
from broughtin.known import reason_apart
from broughtin.ratios import NOTHING
from broughtin.shares import joint_of


def set_links(bringer, group):
    """The links from a bringer to each of a group."""
    return [(bringer, member) for member in group]


def has_form(club, bringer, group):
    """Whether the group is as many brought members with greater days as the bringer's number."""
    behind = brought_behind(club, bringer)
    return len(group) == club[bringer][2] and all([member in behind for member in group])


def is_set(club, bringer, group):
    """Whether the bringer can have brought exactly this group."""
    return has_form(club, bringer, group) and reason_apart(club, set_links(bringer, group)) is None


def room_from(club, members, spot, most):
    """How many of a set may stand at this spot of the members or behind it."""
    if spot == 0:
        return most
    day = club[members[spot - 1]][0]
    if club[members[spot]][0] == day:
        return most
    # The days up to the next brought member have no less slack, for nobody takes a slot on them.
    return min(most, slack_on(club, day))


def within(counts, room):
    """The counts up to an index room, and 0 beyond it."""
    return [count if at <= room else 0 for at, count in enumerate(counts)]


def set_tables(club, bringer):
    """For each spot of those behind the bringer a list: how many ways there are to choose 0, 1, 2 .. from there on."""
    members = brought_behind(club, bringer)
    most = club[bringer][2]
    counts = [1] + [0] * most
    tables = [counts]
    for spot in reversed(range(len(members))):
        # Those that leave this member out, and those that take it.
        full = [left_out + taken for left_out, taken in zip(counts, [0] + counts)]
        counts = within(full, room_from(club, members, spot, most))
        tables.append(counts)
    tables.reverse()
    return tables


def sums_of(club, bringer):
    """The ascending list of all sums of the numbers in a set of the bringer."""
    members = brought_behind(club, bringer)
    most = club[bringer][2]
    # sums[k] lists the sums of k members that were chosen up to this spot.
    sums = [[0]] + [[] for _ in range(most)]
    for spot, member in enumerate(members):
        room = room_from(club, members, spot, most)
        kept = [row if most - chosen <= room else [] for chosen, row in enumerate(sums)]
        raised = [[one + club[member][2] for one in row] for row in kept]
        sums = [sorted(set(left_out + taken)) for left_out, taken in zip(kept, [[]] + raised)]
    return sums[most]


def check_set(club, bringer, group):
    """Check the arguments of a question about one group of a bringer."""
    check_club(club)
    check_member(club, bringer)
    check_group(club, group)
    check_possible(club)


def can_have_brought(club, bringer, group):
    """Whether in some way the bringer brought exactly these."""
    check_set(club, bringer, group)
    return is_set(club, bringer, group)


def set_paper(club, bringer, group):
    """None if the bringer can have brought exactly these, else the least day that they overfill."""
    check_club(club)
    check_member(club, bringer)
    check_group(club, group)
    if not has_form(club, bringer, group):
        raise InvalidGroup("a set has as many brought members with greater days as its bringer's number")
    check_possible(club)
    reason = reason_apart(club, set_links(bringer, group))
    # There are no more links than the bringer's number, so the reason names a day.
    return None if reason is None else reason[1]


def count_sets(club, bringer):
    """How many sets the bringer can have brought."""
    check_one(club, bringer)
    return set_tables(club, bringer)[0][club[bringer][2]]


def nth_set(club, bringer, index):
    """The set with this index, in ascending sequence."""
    check_one(club, bringer)
    tables = set_tables(club, bringer)
    left = club[bringer][2]
    check_index(index, tables[0][left])
    group = []
    for spot, member in enumerate(brought_behind(club, bringer)):
        # Sets that take this member come ahead of those that leave it out.
        taken = tables[spot + 1][left - 1] if left > 0 else 0
        if index < taken:
            group.append(member)
            left -= 1
        else:
            index -= taken
    return group


def set_index(club, bringer, group):
    """The index of a set, in ascending sequence."""
    check_set(club, bringer, group)
    if not is_set(club, bringer, group):
        raise InvalidGroup("the bringer cannot have brought exactly these")
    tables = set_tables(club, bringer)
    left = len(group)
    index = 0
    for spot, member in enumerate(brought_behind(club, bringer)):
        if member in group:
            left -= 1
        elif left > 0:
            index += tables[spot + 1][left - 1]
    return index


def set_share(club, bringer, group):
    """The share of the ways in which the bringer brought exactly these."""
    check_set(club, bringer, group)
    if not is_set(club, bringer, group):
        return NOTHING
    return joint_of(club, set_links(bringer, group))


def second_sums(club, bringer):
    """The ascending list of all sums that the numbers of those it brought can have."""
    check_one(club, bringer)
    return sums_of(club, bringer)


def second_range(club, bringer):
    """The least and the greatest sum that the numbers of those it brought can have."""
    check_one(club, bringer)
    sums = sums_of(club, bringer)
    return (sums[0], sums[-1])
