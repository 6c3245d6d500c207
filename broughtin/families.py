"""Families: how large they can be, who can be in them, and who can share the first one of a line."""

from broughtin.clubs import (
    brought_behind, check_club, check_group, check_member, check_one, check_possible, check_two, day_table,
)
from broughtin.errors import InvalidGroup, InvalidNumber
from broughtin.links import all_candidates
from broughtin.ratios import ratio
from broughtin.ways import slot_counts, way_by_sides


def add_state(states, state, weight, family):
    """Add to the weight of a state; the first family that leads to it is kept."""
    if state in states:
        weight = weight + states[state][0]
        family = states[state][1]
    states[state] = (weight, family)


def next_states(states, member, number, free):
    """The states behind the turn of a brought member, of whom is told its number and how many slots are free."""
    found = {}
    for (size, slots, coming), (weight, family) in states.items():
        if slots > 0:
            add_state(found, (size + 1, slots - 1, coming + number), weight * slots, family + [member])
        if free > slots:
            add_state(found, (size, slots, coming), weight * (free - slots), family)
    return found


def next_day(states):
    """The states on the next day, when those who joined the family have slots, too."""
    found = {}
    for (size, slots, coming), (weight, family) in states.items():
        add_state(found, (size, slots + coming, 0), weight, family)
    return found


def family_table(club, root):
    """For each size that the family can have a tuple of its weight and one such family.

    A state is (size, free slots of the family, slots that open on the next
    day); its weight is in how many ways the slots can have been taken so.
    """
    states = {(0, club[root][2], 0): (1, [])}
    behind = brought_behind(club, root)
    counts = slot_counts(club)
    day = club[root][0]
    for member, free in zip(behind, counts[len(counts) - len(behind):]):
        if club[member][0] > day:
            day = club[member][0]
            states = next_day(states)
        states = next_states(states, member, club[member][2], free)
    return {state[0]: states[state] for state in sorted(states)}


def overfull_day(club, root, group):
    """The least day on which the slots of such a family would not come out, or None."""
    number = club[root][2]
    for day, _, slack in day_table(club):
        if day > club[root][0]:
            opened = number + sum([club[i][2] for i in group if club[i][0] < day])
            left = opened - len([i for i in group if club[i][0] <= day])
            if left < 0 or left > slack:
                return day
    return None


def check_family(club, member, group):
    """Check the arguments of a question about one family, but for whether the club is possible."""
    check_club(club)
    check_member(club, member)
    check_group(club, group)


def are_behind(club, member, group):
    """Whether the group is one of brought members with greater days than the member's."""
    behind = brought_behind(club, member)
    return all([i in behind for i in group])


def last_narrow_days(club):
    """For each member the last day of the club ahead of its own one that no two links can span, or -1."""
    narrow = [day for day, _, slack in day_table(club) if slack < 2]
    return [max([-1] + [day for day in narrow if day < row[0]]) for row in club]


def pairs_above(club, bringers, narrow, moved, pair):
    """The pairs in which the later one of two members gives way to one who can have brought it.

    moved tells whether the earlier one has a link downward, which then spans
    the days between the two.
    """
    other, lower = sorted(pair)
    found = []
    for bringer in bringers[lower]:
        if moved and narrow[lower] > max(club[bringer][0], club[other][0]):
            continue
        if moved and bringer == other and club[bringer][2] < 2:
            continue
        found.append((other, bringer))
    return found


def meet_above(club, one, two):
    """Whether lines upward from two members can come together."""
    bringers = all_candidates(club)
    narrow = last_narrow_days(club)
    seen = {(one, two): True}
    waiting = [(one, two)]
    while waiting:
        pair = waiting.pop()
        if pair[0] == pair[1]:
            return True
        # The later one always moves, so one that still stands at its start has no link downward.
        moved = min(pair) not in (one, two)
        for above in pairs_above(club, bringers, narrow, moved, pair):
            if above not in seen:
                seen[above] = True
                waiting.append(above)
    return False


def family_sizes(club, member):
    """The ascending list of the sizes that the member's family can have."""
    check_one(club, member)
    return sorted(family_table(club, member))


def family_way(club, member, size):
    """A way in which the member's family has this size."""
    check_one(club, member)
    table = family_table(club, member)
    if size not in table:
        raise InvalidNumber("the family cannot have this size")
    family = table[size][1]
    return way_by_sides(club, [member] + family, family)


def family_shares(club, member):
    """The ascending list of the tuples (size, top, bottom) for the sizes of the member's family."""
    check_one(club, member)
    table = family_table(club, member)
    total = sum([weight for weight, _ in table.values()])
    parts = [(size, ratio(table[size][0], total)) for size in sorted(table)]
    return [(size, part[0], part[1]) for size, part in parts]


def can_be_family(club, member, group):
    """Whether the member's family can be exactly this group."""
    check_family(club, member, group)
    check_possible(club)
    return are_behind(club, member, group) and overfull_day(club, member, group) is None


def family_paper(club, member, group):
    """None if the member's family can be exactly this group, else the least day that speaks against it."""
    check_family(club, member, group)
    if not are_behind(club, member, group):
        raise InvalidGroup("a family is of brought members with greater days")
    check_possible(club)
    return overfull_day(club, member, group)


def can_share_root(club, one, two):
    """Whether in some way both are, or are below, one and the same member who came alone."""
    check_two(club, one, two)
    return meet_above(club, one, two)
