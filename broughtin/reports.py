"""Reports: counters that are read on several days.

What is told of a report holds for the stretch of days behind the report
before. The links of unlike stretches have unlike slots, so each stretch is a
club of its own, and its ways go with every way of the others.
"""

from broughtin.clubs import LIMIT, check_member, conflict_of, is_club, is_whole
from broughtin.errors import Impossible, InvalidSheet
from broughtin.links import candidates, full_days
from broughtin.ways import ways_of

MOST_REPORTS = 6


def are_members(thing):
    """Whether any object is a list of members as of a club without numbers, with days below the limit."""
    if type(thing) != list:
        return False
    if not all([type(row) == tuple and len(row) == 2 for row in thing]):
        return False
    # The last day is the greatest one, and all days rise by 1 in the club of a stretch.
    return is_club([(row[0], row[1], 0) for row in thing]) and thing[-1][0] < LIMIT


def are_reports(members, thing):
    """Whether any object is an ascending list of report days that fit the members."""
    if type(thing) != list or not 1 <= len(thing) <= MOST_REPORTS:
        return False
    if not all([is_whole(day, LIMIT - 1) for day in thing]):
        return False
    if not all([before < day for before, day in zip(thing, thing[1:])]):
        return False
    return thing[0] >= members[0][0] and thing[-1] >= members[-1][0]


def joined_up_to(members, day):
    """How many members have a day up to this one."""
    return len([row for row in members if row[0] <= day])


def are_counters(members, reports, thing):
    """Whether any object is a list of counters for each report, none of which falls."""
    if type(thing) != list or len(thing) != len(reports):
        return False
    before = []
    for day, row in zip(reports, thing):
        if type(row) != list or len(row) != joined_up_to(members, day):
            return False
        if not all([is_whole(counter, LIMIT) for counter in row]):
            return False
        if not all([old <= new for old, new in zip(before, row)]):
            return False
        before = row
    return True


def is_sheet(thing):
    """Whether any object is a sheet."""
    if type(thing) != tuple or len(thing) != 3:
        return False
    members, reports, counters = thing
    return are_members(members) and are_reports(members, reports) and are_counters(members, reports, counters)


def check_sheet(sheet):
    """Raise InvalidSheet for what is no sheet."""
    if not is_sheet(sheet):
        raise InvalidSheet("this is no sheet")


def stretch_of(sheet, at):
    """The club of the stretch that ends with the report at an index."""
    members, _, counters = sheet
    before = counters[at - 1] if at > 0 else []
    rows = []
    for i, counter in enumerate(counters[at]):
        day, came = members[i]
        if i < len(before):
            rows.append((0, "alone", counter - before[i]))
        else:
            rows.append((day + 1, came, counter))
    return rows


def stretches_of(sheet):
    """For each report the club of its stretch."""
    return [stretch_of(sheet, at) for at in range(len(sheet[1]))]


def last_club(sheet):
    """The club with the last counters alone."""
    members, _, counters = sheet
    return [(day, came, counter) for (day, came), counter in zip(members, counters[-1])]


def first_conflict(sheet):
    """The index of the first report whose stretch is not possible, with its conflict; None if all are."""
    for at, club in enumerate(stretches_of(sheet)):
        conflict = conflict_of(club)
        if conflict is not None:
            return (at, conflict)
    return None


def ways_or_none(club):
    """How many ways a club has, 0 if it is not possible."""
    return ways_of(club) if conflict_of(club) is None else 0


def agreeing_ways(sheet):
    """How many ways agree with all reports."""
    total = 1
    for club in stretches_of(sheet):
        total = total * ways_or_none(club)
    return total


def stretch_clubs(sheet):
    """For each report the club of those days that it tells more of than the report before."""
    check_sheet(sheet)
    return stretches_of(sheet)


def report_conflict(sheet):
    """None, or the index of the first report whose stretch is not possible, and its conflict."""
    check_sheet(sheet)
    return first_conflict(sheet)


def report_ways(sheet):
    """How many ways of the last counters' club agree with all reports."""
    check_sheet(sheet)
    return agreeing_ways(sheet)


def report_bringers(sheet, member):
    """The ascending list of those who can have brought the member in ways that agree with all reports."""
    check_sheet(sheet)
    check_member(sheet[0], member)
    problem = first_conflict(sheet)
    if problem is not None:
        _, (word, number) = problem
        raise Impossible(word, number)
    # The first stretch in which the member stands is the one in which it joined.
    club = [rows for rows in stretches_of(sheet) if member < len(rows)][0]
    return candidates(club, full_days(club), member)


def fewer_by(sheet):
    """How many ways agree with all reports, and how many the last counters alone would have."""
    check_sheet(sheet)
    return (agreeing_ways(sheet), ways_or_none(last_club(sheet)))
