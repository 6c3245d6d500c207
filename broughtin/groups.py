"""Groups: how many of some members were brought by one of some bringers."""

from broughtin.clubs import all_brought, check_club, check_group, check_possible, day_table
from broughtin.errors import InvalidGroup, InvalidNumber
from broughtin.ratios import total_of
from broughtin.shares import chances_by_day
from broughtin.ways import slot_counts, way_by_sides


def check_groups(club, bringers, members):
    """Check the arguments of a question about two groups."""
    check_club(club)
    check_group(club, bringers)
    check_group(club, members)
    if not all([club[member][1] == "brought" for member in members]):
        raise InvalidGroup("one of the members came alone")
    check_possible(club)


def turns_of(club, bringers, members):
    """For each brought member a tuple (slots, others, worth).

    slots are those of the bringers that are open at its turn, taken or not;
    others are all further slots that are free if no slot of the bringers was
    taken; worth is 1 for one of the members, else 0.
    """
    turns = []
    for member, free in zip(all_brought(club), slot_counts(club)):
        slots = sum([club[i][2] for i in bringers if club[i][0] < club[member][0]])
        turns.append((slots, free - slots, 1 if member in members else 0))
    return turns


def numbers_from(turn, used, behind):
    """How many of the members can be counted from this turn on, with so many slots of the bringers taken before.

    behind[k] tells the same of the next turn, with k slots taken.
    """
    slots, others, worth = turn
    numbers = []
    if slots - used > 0:
        numbers = [number + worth for number in behind[used + 1]]
    if others + used > 0:
        numbers = numbers + behind[used]
    return sorted(set(numbers))


def number_tables(turns):
    """For each turn a list: by how many slots of the bringers are taken before, the numbers that can be counted."""
    tables = [[[0] for _ in range(len(turns) + 1)]]
    for at in reversed(range(len(turns))):
        behind = tables[-1]
        tables.append([numbers_from(turns[at], used, behind) for used in range(at + 1)])
    tables.reverse()
    return tables


def takers_of(club, turns, tables, number):
    """Brought members who can together take the slots of the bringers, so many of the members among them."""
    used = 0
    takers = []
    for at, member in enumerate(all_brought(club)):
        slots, _, worth = turns[at]
        if slots > used and number - worth in tables[at + 1][used + 1]:
            takers.append(member)
            used += 1
            number -= worth
    return takers


def group_range(club, bringers, members):
    """The least and the greatest number of the members who were brought by one of the bringers."""
    check_groups(club, bringers, members)
    numbers = number_tables(turns_of(club, bringers, members))[0][0]
    return (numbers[0], numbers[-1])


def group_way(club, bringers, members, number):
    """A way in which so many of the members were brought by one of the bringers."""
    check_groups(club, bringers, members)
    turns = turns_of(club, bringers, members)
    tables = number_tables(turns)
    if number not in tables[0][0]:
        raise InvalidNumber("no way has so many of the members brought by the bringers")
    return way_by_sides(club, bringers, takers_of(club, turns, tables, number))


def group_mean(club, bringers, members):
    """The mean number of the members who were brought by one of the bringers, over all ways."""
    check_groups(club, bringers, members)
    chances = chances_by_day(club, day_table(club), bringers)
    return total_of([chances[club[member][0]] for member in members])
