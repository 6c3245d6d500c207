"""Unsure members: of whom it is not told whether they were brought.

A choice tells of each unsure member whether it was brought. How many slots
are free at a member's turn depends only on how many were brought before, so
all choices can be counted together, member by member.
"""

from broughtin.clubs import are_rows, check_index, check_member, has_way, slots_before, slots_left
from broughtin.errors import Impossible, InvalidClub, InvalidMember
from broughtin.ratios import ratio
from broughtin.ways import numbers_in, slot_orders

UNSURE_WORDS = ("alone", "brought", "unsure")
MOST_UNSURE = 12


def all_unsure(club):
    """The indices of the unsure members, ascending."""
    return [member for member, row in enumerate(club) if row[1] == "unsure"]


def is_unsure_club(thing):
    """Whether any object is a club in which some members may be unsure."""
    return are_rows(thing, UNSURE_WORDS) and len(all_unsure(thing)) <= MOST_UNSURE


def check_unsure_club(club):
    """Raise InvalidClub for what is no club, even with unsure members."""
    if not is_unsure_club(club):
        raise InvalidClub("this is no club, also not one with unsure members")


def told_so(club, members, came):
    """The club in which these members came so."""
    return [(row[0], came if i in members else row[1], row[2]) for i, row in enumerate(club)]


def club_of(club, choice):
    """The club of a choice: its members were brought, all other unsure ones are alone."""
    others = [member for member in all_unsure(club) if member not in choice]
    return told_so(told_so(club, choice, "brought"), others, "alone")


def last_choice(club):
    """The choice of the last unsure members, or None if there is no choice."""
    unsure = all_unsure(club)
    needed = slots_left(club)
    if not 0 <= needed <= len(unsure):
        return None
    # The later those stand who were brought, the more slots are open for each of them.
    choice = unsure[len(unsure) - needed:]
    return choice if has_way(club_of(club, choice)) else None


def check_choice(club):
    """Raise Impossible if there is no choice."""
    if last_choice(club) is None:
        raise Impossible("left", 0)


def check_unsure_member(club, member):
    """Check the arguments of a question about one unsure member."""
    check_unsure_club(club)
    check_member(club, member)
    if club[member][1] != "unsure":
        raise InvalidMember("of this member it is told how it came")
    check_choice(club)


def one_if_any(slots):
    """How many choices one turn with so many free slots can stand in."""
    return 1 if slots > 0 else 0


def each_slot(slots):
    """How many slots can be taken at one turn."""
    return max(slots, 0)


def turn_tables(club, weigh):
    """For each member a list: by how many were brought before it, the weight of all that can follow.

    The weight of one who was brought is what weigh tells of the free slots.
    One more list stands behind the last member.
    """
    whole = sum(numbers_in(club))
    tables = [[1 if brought == whole else 0 for brought in range(len(club) + 1)]]
    for member in reversed(range(len(club))):
        day, came, _ = club[member]
        opened = slots_before(club, day)
        behind = tables[-1]
        weights = [0] * (member + 1)
        for brought in range(member + 1):
            if came != "brought":
                weights[brought] = behind[brought]
            if came != "alone":
                weights[brought] = weights[brought] + weigh(opened - brought) * behind[brought + 1]
        tables.append(weights)
    tables.reverse()
    return tables


def ways_in_all(club):
    """The number of ways of all choices together, for numbers with which there is a choice."""
    return turn_tables(club, each_slot)[0][0] // slot_orders(club)


def bringer_weights(club, behind, left, member, brought):
    """What can stand for a member in a list of bringers, ascending, None first, each with the weight of it.

    behind is the table of the next turn, left tells the free slots of each member.
    """
    day, came, _ = club[member]
    weights = []
    if came != "brought":
        weights.append((None, behind[brought]))
    if came != "alone":
        earlier = [i for i in range(member) if club[i][0] < day]
        weights.extend([(i, left[i] * behind[brought + 1]) for i in earlier])
    return weights


def any_way_at(club, index):
    """The way with an index that there is among those of all choices."""
    tables = turn_tables(club, each_slot)
    left = numbers_in(club)
    orders = slot_orders(club)
    way = []
    brought = 0
    for member in range(len(club)):
        for bringer, weight in bringer_weights(club, tables[member + 1], left, member, brought):
            if index < weight // orders:
                way.append(bringer)
                break
            index -= weight // orders
        if way[member] is not None:
            orders = orders // left[way[member]]
            left[way[member]] -= 1
            brought += 1
    return way


def choice_of(club):
    """The choice of the last unsure members, as many as are needed; None if there is no choice."""
    check_unsure_club(club)
    return last_choice(club)


def can_be_brought(club, member):
    """Whether an unsure member is in some choice."""
    check_unsure_member(club, member)
    return last_choice(told_so(club, [member], "brought")) is not None


def must_be_brought(club, member):
    """Whether an unsure member is in all choices."""
    check_unsure_member(club, member)
    return last_choice(told_so(club, [member], "alone")) is None


def count_choices(club):
    """How many choices there are."""
    check_unsure_club(club)
    check_choice(club)
    return turn_tables(club, one_if_any)[0][0]


def count_all_ways(club):
    """How many ways all choices have together."""
    check_unsure_club(club)
    check_choice(club)
    return ways_in_all(club)


def nth_any_way(club, index):
    """The way with this index among those of all choices, compared by the lists of all bringers, None first."""
    check_unsure_club(club)
    check_choice(club)
    check_index(index, ways_in_all(club))
    return any_way_at(club, index)


def came_share(club, member):
    """The share of the ways of all choices in which an unsure member was brought."""
    check_unsure_member(club, member)
    return ratio(ways_in_all(told_so(club, [member], "brought")), ways_in_all(club))
