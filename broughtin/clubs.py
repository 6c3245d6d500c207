"""Clubs: what days and counters tell before anybody is named.

The functions of the interface check their arguments. The others, which the
rest of the package shares, trust that the club they get was checked.
"""

from broughtin.errors import Impossible, InvalidClub, InvalidDay, InvalidGroup, InvalidIndex, InvalidMember

LIMIT = 10 ** 30
MOST_MEMBERS = 60
CAME_WORDS = ("alone", "brought")


def is_whole(thing, most):
    """Whether any object is an integer from 0 to most."""
    # isinstance would take True and False for integers.
    return type(thing) == int and 0 <= thing <= most


def is_row(thing, words):
    """Whether any object is a tuple that can stand in a club, with one of the words for how the member came."""
    if type(thing) != tuple or len(thing) != 3:
        return False
    day, came, number = thing
    return is_whole(day, LIMIT) and came in words and is_whole(number, LIMIT)


def are_rows(thing, words):
    """Whether any object has the form of a club, with one of the words for how each member came."""
    if type(thing) != list or not 1 <= len(thing) <= MOST_MEMBERS:
        return False
    last = 0
    for row in thing:
        if not is_row(row, words) or row[0] < last:
            return False
        last = row[0]
    return True


def is_club(thing):
    """Whether any object is a club."""
    return are_rows(thing, CAME_WORDS)


def check_club(club):
    """Raise InvalidClub for what is no club."""
    if not is_club(club):
        raise InvalidClub("this is no club")


def check_member(club, member):
    """Raise InvalidMember for what is no index of the club."""
    if not is_whole(member, len(club) - 1):
        raise InvalidMember("this is no member's index")


def check_day(day):
    """Raise InvalidDay for what is no day from 0 to the limit."""
    if not is_whole(day, LIMIT):
        raise InvalidDay("this is no day from 0 to 10 ** 30")


def is_group(club, thing):
    """Whether any object is an ascending list of members' indices."""
    if type(thing) != list:
        return False
    last = -1
    for member in thing:
        if not is_whole(member, len(club) - 1) or member <= last:
            return False
        last = member
    return True


def check_group(club, group):
    """Raise InvalidGroup for what is no ascending list of members' indices."""
    if not is_group(club, group):
        raise InvalidGroup("this is no ascending list of members' indices")


def check_possible(club):
    """Raise Impossible, with what conflict_of tells, if the club has no way."""
    conflict = conflict_of(club)
    if conflict is not None:
        word, number = conflict
        raise Impossible(word, number)


def check_one(club, member):
    """Check the arguments of a question about one member of a possible club."""
    check_club(club)
    check_member(club, member)
    check_possible(club)


def check_two(club, one, two):
    """Check the arguments of a question about two members of a possible club."""
    check_club(club)
    check_member(club, one)
    check_member(club, two)
    check_possible(club)


def check_index(index, many):
    """Raise InvalidIndex for what is no index of so many things."""
    if not is_whole(index, many - 1):
        raise InvalidIndex("nothing has this index")


def slots_before(club, day):
    """The sum of the numbers of the members with a lesser day."""
    return sum([row[2] for row in club if row[0] < day])


def brought_before(club, day):
    """How many brought members have a lesser day."""
    return len([row for row in club if row[1] == "brought" and row[0] < day])


def slack_on(club, day):
    """The slots of lesser days that are left behind this day."""
    return slots_before(club, day) - brought_before(club, day + 1)


def all_days(club):
    """The days of the club, ascending, each once."""
    return sorted({row[0] for row in club})


def day_table(club):
    """For each day of the club, ascending, the tuple (day, free, slack)."""
    table = []
    for day in all_days(club):
        free = slots_before(club, day) - brought_before(club, day)
        table.append((day, free, slack_on(club, day)))
    return table


def all_brought(club):
    """The indices of the brought members, ascending."""
    return [member for member, row in enumerate(club) if row[1] == "brought"]


def brought_behind(club, member):
    """The brought members with a greater day than this member's, ascending."""
    return [i for i in all_brought(club) if club[i][0] > club[member][0]]


def short_days(club):
    """The days of the club with slack below 0, ascending."""
    return [day for day in all_days(club) if slack_on(club, day) < 0]


def slots_left(club):
    """How many more all numbers together are than the brought members."""
    return sum([row[2] for row in club]) - len(all_brought(club))


def has_way(club):
    """Whether a checked club is possible."""
    return slots_left(club) == 0 and not short_days(club)


def days_in(club):
    """The days of the club, ascending, each once."""
    check_club(club)
    return all_days(club)


def brought_in(club):
    """The brought members, ascending."""
    check_club(club)
    return all_brought(club)


def slots_ahead(club, day):
    """W: the sum of the numbers of the members with a lesser day."""
    check_club(club)
    check_day(day)
    return slots_before(club, day)


def free_at(club, day):
    """W less the brought members with a lesser day."""
    check_club(club)
    check_day(day)
    return slots_before(club, day) - brought_before(club, day)


def slack_at(club, day):
    """W less the brought members with a day up to this one."""
    check_club(club)
    check_day(day)
    return slack_on(club, day)


def conflict_of(club):
    """None for a possible club, else ("day", t) or ("left", k)."""
    check_club(club)
    short = short_days(club)
    if short:
        return ("day", short[0])
    left = slots_left(club)
    # With no short day the numbers suffice on the last day, so left is not below 0.
    if left > 0:
        return ("left", left)
    return None


def shows_conflict(club, thing):
    """Whether any object is a true conflict of the club, not only the first one."""
    check_club(club)
    if type(thing) != tuple or len(thing) != 2:
        return False
    word, number = thing
    if type(number) != int:
        return False
    if word == "day":
        return number in short_days(club)
    return word == "left" and number >= 1 and number == slots_left(club)
