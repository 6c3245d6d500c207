"""Slips: which one entry, told otherwise, lets a club be possible."""

from broughtin.clubs import LIMIT, check_club, check_member, day_table, has_way, slots_left


def with_row(club, member, row):
    """The club with another row for a member, in the sequence of days."""
    rows = club[:member] + [row] + club[member + 1:]
    return sorted(rows, key=lambda told: told[0])


def with_number(club, member, number):
    """The club with another number for a member."""
    day, came, _ = club[member]
    return with_row(club, member, (day, came, number))


def with_day(club, member, day):
    """The club in which a member joined on another day."""
    _, came, number = club[member]
    return with_row(club, member, (day, came, number))


def came_otherwise(club, member):
    """The club in which a member came the other way."""
    day, came, number = club[member]
    return with_row(club, member, (day, "alone" if came == "brought" else "brought", number))


def moves_between(club, table, raised, lowered):
    """The least and the greatest number that can go from one member to another; the least may be the greater one.

    table is the club's day_table. A slot that opens earlier adds to the
    slack of the days behind the one member's, up to the other's.
    """
    early, late = club[raised][0], club[lowered][0]
    least, greatest = 1, club[lowered][2]
    for day, _, slack in table:
        if early < day <= late:
            least = max(least, -slack)
        elif late < day <= early:
            greatest = min(greatest, slack)
        elif slack < 0:
            # No move between these two adds to the slack of this day.
            greatest = 0
    return (least, greatest)


def first_days(club, member):
    """The days from 0 on with which a stretch begins, ascending.

    On all days from one of them up to the next one the member stands the same
    way among the others.
    """
    others = [row[0] for i, row in enumerate(club) if i != member]
    days = [0] + others + [day + 1 for day in others if day < LIMIT]
    return sorted(set(days))


def day_stretches(club, member):
    """The tuples (first, last) of neighbouring stretches, from 0 to the limit, on each of which all days are alike."""
    firsts = first_days(club, member)
    lasts = [day - 1 for day in firsts[1:]] + [LIMIT]
    return list(zip(firsts, lasts))


def put_together(stretches):
    """The same days in as few stretches as possible, of stretches that ascend."""
    found = []
    for first, last in stretches:
        if found and found[-1][1] == first - 1:
            found[-1] = (found[-1][0], last)
        else:
            found.append((first, last))
    return found


def one_number(club):
    """The ascending list of the tuples (member, value) such that the club with this one number is possible."""
    check_club(club)
    left = slots_left(club)
    found = []
    for member, row in enumerate(club):
        # All numbers together must be as many as the brought members, so only one value can be.
        value = row[2] - left
        if value >= 0 and has_way(with_number(club, member, value)):
            found.append((member, value))
    return found


def two_numbers(club):
    """The ascending list of the tuples (raised, lowered, least, greatest) of numbers that can go to another member."""
    check_club(club)
    # A move leaves the sum of all numbers as it is.
    if slots_left(club) != 0:
        return []
    table = day_table(club)
    found = []
    for raised in range(len(club)):
        for lowered in range(len(club)):
            least, greatest = moves_between(club, table, raised, lowered)
            if raised != lowered and least <= greatest:
                found.append((raised, lowered, least, greatest))
    return found


def one_came(club):
    """The ascending list of the members such that the club is possible if this one came otherwise."""
    check_club(club)
    return [member for member in range(len(club)) if has_way(came_otherwise(club, member))]


def one_day(club, member):
    """The ascending list of the stretches (first, last) of days on which the member can have joined."""
    check_club(club)
    check_member(club, member)
    stretches = day_stretches(club, member)
    return put_together([stretch for stretch in stretches if has_way(with_day(club, member, stretch[0]))])
