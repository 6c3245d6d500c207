import random
import unittest
from math import prod

from broughtin import clubs, errors, links, reports, ways
from trial import (
    EXAMPLE, EXAMPLE_WAYS, NOT_POSSIBLE, STRANGE, TOP, answer_of, conflict_in, kind_of, lists_of_bringers,
    random_club, tried_clubs, ways_by_trying, wide_clubs,
)

# The example, told on the days 1 and 3.
MEMBERS = [(0, "alone"), (0, "alone"), (1, "brought"), (1, "brought"), (2, "brought"), (3, "brought")]
SHEET = (MEMBERS, [1, 3], [[1, 1, 0, 0], [2, 1, 1, 0, 0, 0]])
# The same members, told on day 3 alone.
ONCE = (MEMBERS, [3], [[2, 1, 1, 0, 0, 0]])
ABOUT_SHEET = [reports.stretch_clubs, reports.report_conflict, reports.report_ways, reports.fewer_by]

PAIR = [(4, "alone"), (7, "brought")]
NO_SHEETS = STRANGE + [
    list(SHEET),
    SHEET[:2],
    SHEET + ([],),
    [SHEET],
    # Members.
    (tuple(MEMBERS), [1, 3], SHEET[2]),
    ([], [3], [[]]),
    (None, [3], [[]]),
    ([(0, "alone")] * 61, [3], [[0] * 61]),
    ([[0, "alone"]], [3], [[0]]),
    ([(0, "alone", 0)], [3], [[0]]),
    ([(0,)], [3], [[0]]),
    ([()], [3], [[0]]),
    ([None], [3], [[0]]),
    ([("alone", 0)], [3], [[0]]),
    ([(0, "unsure")], [3], [[0]]),
    ([(0, "Alone")], [3], [[0]]),
    ([(0, None)], [3], [[0]]),
    ([(-1, "alone")], [3], [[0]]),
    ([(True, "alone")], [3], [[0]]),
    ([(False, "alone")], [3], [[0]]),
    ([("0", "alone")], [3], [[0]]),
    ([(TOP, "alone")], [TOP], [[0]]),
    ([(TOP, "alone")], [TOP - 1], [[0]]),
    ([(0, "alone"), (TOP, "brought")], [TOP - 1], [[1]]),
    ([(0, "alone"), (TOP, "brought")], [TOP - 1], [[1, 0]]),
    ([(7, "alone"), (4, "brought")], [7], [[1, 0]]),
    # Reports.
    (PAIR, (7,), [[1, 0]]),
    (PAIR, [], []),
    (PAIR, [], [[1, 0]]),
    (PAIR, None, [[1, 0]]),
    (PAIR, 7, [[1, 0]]),
    (PAIR, [7, 8, 9, 10, 11, 12, 13], [[1, 0]] * 7),
    (PAIR, [7, 7], [[1, 0], [1, 0]]),
    (PAIR, [8, 7], [[1, 0], [1, 0]]),
    (PAIR, [5, 9, 8], [[0], [1, 0], [1, 0]]),
    (PAIR, [3, 7], [[], [1, 0]]),
    (PAIR, [-1, 7], [[], [1, 0]]),
    (PAIR, [6], [[1, 0]]),
    (PAIR, [6], [[0]]),
    (PAIR, [4, 6], [[0], [0]]),
    (PAIR, [TOP], [[1, 0]]),
    (PAIR, [7, TOP], [[1, 0], [1, 0]]),
    (PAIR, [TOP + 1], [[1, 0]]),
    (PAIR, ["7"], [[1, 0]]),
    (PAIR, [None], [[1, 0]]),
    (PAIR, [[7]], [[1, 0]]),
    (PAIR, [True, 7], [[], [1, 0]]),
    ([(0, "alone"), (1, "brought")], [True], [[1, 0]]),
    ([(0, "alone"), (1, "brought")], [False, 1], [[0], [1, 0]]),
    # Counters.
    (PAIR, [7], ([1, 0],)),
    (PAIR, [7], None),
    (PAIR, [7], []),
    (PAIR, [7], [1, 0]),
    (PAIR, [7], [(1, 0)]),
    (PAIR, [7], [[1]]),
    (PAIR, [7], [[1, 0, 0]]),
    (PAIR, [7], [[]]),
    (PAIR, [7], [[1, 0], [1, 0]]),
    (PAIR, [5, 7], [[1, 0]]),
    (PAIR, [5, 7], [[0, 0], [1, 0]]),
    (PAIR, [5, 7], [[0], [1]]),
    (PAIR, [5, 7], [[2], [1, 0]]),
    (PAIR, [5, 7, 9], [[0], [1, 0], [0, 1]]),
    (PAIR, [7, 9], [[1, 1], [1, 0]]),
    (PAIR, [7], [[-1, 0]]),
    (PAIR, [7], [[1, TOP + 1]]),
    (PAIR, [7], [[True, 0]]),
    (PAIR, [7], [[1, False]]),
    (PAIR, [7], [["1", 0]]),
    (PAIR, [7], [[1, None]]),
    (PAIR, [7], [[1, [0]]]),
    (PAIR, [5, 7], [[False], [1, 0]]),
    (PAIR, [7], [[errors.InvalidSheet("none"), 0]]),
]


def counters_of(members, way, days):
    """What the counters tell on these days if this is the way."""
    return [
        [sum(way[j] == i and members[j][0] <= day for j in range(len(members)))
         for i in range(len(members)) if members[i][0] <= day]
        for day in days
    ]


def last_club(sheet):
    return [(*row, counter) for row, counter in zip(sheet[0], sheet[2][-1])]


def agreeing(sheet):
    """All ways of the last counters' club in which each counter of each report is right."""
    return [way for way in ways_by_trying(last_club(sheet)) if counters_of(sheet[0], way, sheet[1]) == sheet[2]]


def without_numbers(club):
    return [row[:2] for row in club]


def some_days(chance, members, most=6):
    """Report days that fit the members: at, beside and between their days."""
    first, last = members[0][0], members[-1][0]
    near = [day + step for day, _ in members for step in (-1, 0, 1)]
    near = sorted({day for day in near if first <= day <= last} | {first})
    many = chance.randint(0, min(most - 1, len(near)))
    end = chance.choice((last, last + 1, last + 5))
    return sorted({day for day in chance.sample(near, many) if day < end} | {end})


def told_wrong(chance, sheet):
    """A sheet with one counter changed, from one report on."""
    members, days, counters = sheet
    at = chance.randrange(len(days))
    spot = chance.randrange(len(counters[at]))
    step = chance.choice((-1, 1))
    rows = [list(row) for row in counters]
    for row in rows[at:chance.randint(at + 1, len(rows))]:
        row[spot] += step
    return (members, days, rows)


def small_sheets():
    """Sheets of small clubs: told of one of their ways, and some with a wrong counter."""
    chance = random.Random(121)
    clubs_tried = [club for club, _ in tried_clubs() if len(club) <= 3]
    clubs_tried += [random_club(chance, chance.randint(4, 8), chance.choice((3, 5, 8))) for _ in range(260)]
    for club in clubs_tried:
        members = without_numbers(club)
        found = ways_by_trying(club)
        for _ in range(3):
            days = some_days(chance, members)
            sheet = (members, days, counters_of(members, chance.choice(found), days))
            yield sheet
            wrong = told_wrong(chance, sheet)
            if reports.is_sheet(wrong):
                yield wrong


def wide_sheets():
    """Sheets of up to 60 members, each with one to six reports, days up to just below 10 ** 30."""
    chance = random.Random(122)
    for club in wide_clubs():
        members = without_numbers(club)
        found = ways.nth_way(club, chance.randrange(ways.count_ways(club)))
        for many in (1, 2, 6):
            days = sorted(chance.sample(sorted({day for day, _ in members}), many - 1)) + [TOP - 1]
            yield (members, days, counters_of(members, found, days)), found


def stretches_by_hand(sheet):
    """The clubs of the stretches, as the document tells to build them."""
    members, days, counters = sheet
    told = []
    for at, day in enumerate(days):
        club = []
        for i, (joined, came) in enumerate(members):
            if at > 0 and joined <= days[at - 1]:
                club.append((0, "alone", counters[at][i] - counters[at - 1][i]))
            elif joined <= day:
                club.append((joined + 1, came, counters[at][i]))
        told.append(club)
    return told


class IsSheetTest(unittest.TestCase):
    def test_sheets(self):
        for sheet in (
            SHEET,
            ONCE,
            ([(0, "alone")], [0], [[0]]),
            ([(0, "brought")], [0], [[TOP]]),
            ([(TOP - 1, "brought")], [TOP - 1], [[TOP]]),
            ([(0, "alone")] * 60, [0], [[0] * 60]),
            (PAIR, [4, 5, 6, 7, 8, 9], [[0], [0], [1], [1, 1], [1, 1], [2, 7]]),
            (PAIR, [4, 7], [[0], [0, TOP]]),
            (PAIR, [6, 7], [[3], [3, 0]]),
            (PAIR, [7], [[1, 0]]),
            (PAIR, [6, TOP - 1], [[0], [1, 0]]),
        ):
            with self.subTest(sheet=sheet):
                self.assertIs(answer_of(reports.is_sheet, sheet), True)

    def test_what_is_no_sheet(self):
        for thing in NO_SHEETS:
            with self.subTest(thing=thing):
                self.assertIs(answer_of(reports.is_sheet, thing), False)


class ExampleTest(unittest.TestCase):
    def test_two_reports(self):
        told = [
            [(1, "alone", 1), (1, "alone", 1), (2, "brought", 0), (2, "brought", 0)],
            [(0, "alone", 1), (0, "alone", 0), (0, "alone", 1), (0, "alone", 0), (3, "brought", 0),
             (4, "brought", 0)],
        ]
        self.assertEqual(answer_of(reports.stretch_clubs, SHEET), told)
        self.assertIsNone(answer_of(reports.report_conflict, SHEET))
        # Both were brought on day 1 by unlike members, and so were both of the days behind.
        self.assertEqual(answer_of(reports.report_ways, SHEET), 4)
        self.assertEqual(answer_of(reports.fewer_by, SHEET), (4, 6))
        listed = [answer_of(reports.report_bringers, SHEET, member) for member in range(6)]
        self.assertEqual(listed, [[], [], [0, 1], [0, 1], [0, 2], [0, 2]])

    def test_one_report_alone(self):
        told = [[(day + 1, came, number) for day, came, number in EXAMPLE]]
        self.assertEqual(answer_of(reports.stretch_clubs, ONCE), told)
        self.assertEqual(answer_of(reports.fewer_by, ONCE), (6, 6))
        for member in range(6):
            self.assertEqual(answer_of(reports.report_bringers, ONCE, member), links.bringers_of(EXAMPLE, member))

    def test_a_report_on_each_day(self):
        for way in EXAMPLE_WAYS:
            sheet = (MEMBERS, [0, 1, 2, 3], counters_of(MEMBERS, way, [0, 1, 2, 3]))
            self.assertEqual(answer_of(reports.report_ways, sheet), len(agreeing(sheet)))
            # Only who brought one of several members of the same day is left open.
            self.assertEqual(answer_of(reports.report_bringers, sheet, 4), [way[4]])
            self.assertEqual(answer_of(reports.report_bringers, sheet, 5), [way[5]])

    def test_reports_without_new_members(self):
        idle = (MEMBERS, [0, 1, 3, 4, 5], [[0, 0]] + [[1, 1, 0, 0]] + [[2, 1, 1, 0, 0, 0]] * 3)
        self.assertEqual(answer_of(reports.report_ways, idle), 4)
        self.assertEqual(reports.stretch_clubs(idle)[4], [(0, "alone", 0)] * 6)
        busy = (MEMBERS, [1, 3, 4], SHEET[2] + [[2, 1, 3, 0, 0, 1]])
        self.assertEqual(answer_of(reports.report_conflict, busy), (2, ("left", 3)))
        self.assertEqual(answer_of(reports.fewer_by, busy), (0, 0))


class ConflictTest(unittest.TestCase):
    def test_first_of_several(self):
        # Too few on day 1 and too many behind it.
        sheet = (MEMBERS, [1, 3], [[1, 0, 0, 0], [2, 2, 1, 0, 0, 0]])
        self.assertEqual(answer_of(reports.report_conflict, sheet), (0, ("day", 2)))
        self.assertEqual(conflict_in(reports.report_bringers, sheet, 0), ("day", 2))
        sheet = (MEMBERS, [1, 3], [[1, 1, 0, 0], [2, 2, 1, 0, 0, 0]])
        self.assertEqual(answer_of(reports.report_conflict, sheet), (1, ("left", 1)))
        self.assertEqual(conflict_in(reports.report_bringers, sheet, 0), ("left", 1))
        self.assertEqual(answer_of(reports.fewer_by, sheet), (0, 0))

    def test_the_last_counters_alone_can_be(self):
        sheet = (MEMBERS, [1, 3], [[2, 1, 0, 0], [2, 1, 1, 0, 0, 0]])
        self.assertEqual(answer_of(reports.report_conflict, sheet), (0, ("left", 1)))
        self.assertEqual(answer_of(reports.report_ways, sheet), 0)
        self.assertEqual(answer_of(reports.fewer_by, sheet), (0, 6))
        sheet = (MEMBERS, [1, 3], [[1, 1, 0, 0], [1, 1, 1, 1, 0, 0]])
        self.assertEqual(answer_of(reports.fewer_by, sheet), (4, 4))

    def test_as_conflict_of_tells(self):
        for club, conflict in NOT_POSSIBLE:
            if club[-1][0] < TOP:
                members, last = without_numbers(club), club[-1][0]
                sheet = (members, [last], [[row[2] for row in club]])
                raised = ("day", conflict[1] + 1) if conflict[0] == "day" else conflict
                self.assertEqual(answer_of(reports.report_conflict, sheet), (0, raised))
                self.assertEqual(answer_of(reports.fewer_by, sheet), (0, 0))
                self.assertEqual(conflict_in(reports.report_bringers, sheet, 0), raised)


class AgainstAllWaysTest(unittest.TestCase):
    def test_sheets(self):
        seen = {True: 0, False: 0}
        for sheet in small_sheets():
            self.assertIs(reports.is_sheet(sheet), True, sheet)
            self.hold(sheet, agreeing(sheet))
            seen[reports.report_ways(sheet) > 0] += 1
        self.assertGreater(min(seen.values()), 200)

    def hold(self, sheet, found):
        self.assertEqual(reports.stretch_clubs(sheet), stretches_by_hand(sheet), sheet)
        self.assertEqual(reports.report_ways(sheet), len(found), sheet)
        whole = len(ways_by_trying(last_club(sheet)))
        self.assertEqual(reports.fewer_by(sheet), (len(found), whole), sheet)
        conflict = reports.report_conflict(sheet)
        self.assertEqual(conflict is None, found != [], sheet)
        if conflict is not None:
            told = [(at, clubs.conflict_of(club)) for at, club in enumerate(stretches_by_hand(sheet))]
            self.assertEqual(conflict, [row for row in told if row[1] is not None][0], sheet)
        for member in range(len(sheet[0])):
            if found:
                told = sorted({way[member] for way in found if way[member] is not None})
                self.assertEqual(reports.report_bringers(sheet, member), told, (sheet, member))
            else:
                self.assertEqual(conflict_in(reports.report_bringers, sheet, member), conflict[1], (sheet, member))

    def test_possible_lists_of_counters(self):
        # Each way tells its counters; the ways of all unlike counters are all ways.
        chance = random.Random(123)
        for _ in range(60):
            club = random_club(chance, 6, 4)
            members, found = without_numbers(club), ways_by_trying(club)
            days = some_days(chance, members)
            told = {str(row): row for row in [counters_of(members, way, days) for way in found]}
            total = sum(reports.report_ways((members, days, row)) for row in told.values())
            self.assertEqual(total, len(found))

    def test_days_up_to_a_report(self):
        # lists_of_bringers with a day leaves later members out, as a first report does.
        for club, _ in tried_clubs():
            members = without_numbers(club)
            if len(club) == 3 and members[0][0] < members[-1][0]:
                first = members[0][0]
                early = [row for row in members if row[0] <= first]
                sheet = (members, [first, members[-1][0]], [[0] * len(early), [row[2] for row in club]])
                self.assertEqual(reports.report_conflict(sheet), None)
                self.assertEqual(reports.report_ways(sheet), len(lists_of_bringers(club)))


class WideSheetsTest(unittest.TestCase):
    def test_products_and_bringers(self):
        for sheet, way in wide_sheets():
            told = answer_of(reports.stretch_clubs, sheet)
            self.assertEqual(told, stretches_by_hand(sheet))
            self.assertIsNone(answer_of(reports.report_conflict, sheet))
            count = prod(ways.count_ways(club) for club in told)
            self.assertEqual(answer_of(reports.report_ways, sheet), count)
            self.assertEqual(answer_of(reports.fewer_by, sheet), (count, ways.count_ways(last_club(sheet))))
            for member in range(0, len(way), 3):
                bringers = answer_of(reports.report_bringers, sheet, member)
                self.assertEqual(bringers, sorted(set(bringers)))
                if way[member] is None:
                    self.assertEqual(bringers, [])
                else:
                    self.assertIn(way[member], bringers)

    def test_more_reports_leave_fewer_ways(self):
        for club in wide_clubs():
            members = without_numbers(club)
            way = ways.nth_way(club, ways.count_ways(club) // 2)
            days = sorted({day for day, _ in members})[:5] + [TOP - 1]
            before = None
            for kept in (days[5:], days[3:], days[1:], days):
                sheet = (members, kept, counters_of(members, way, kept))
                count, whole = reports.fewer_by(sheet)
                self.assertEqual(whole, ways.count_ways(club))
                self.assertTrue(0 < count <= (before or whole))
                before = count

    def test_lists_are_new(self):
        told = reports.stretch_clubs(SHEET)
        told[0].append("changed")
        told.append("changed")
        self.assertEqual(reports.stretch_clubs(SHEET), stretches_by_hand(SHEET))
        twice = reports.stretch_clubs((MEMBERS, [3, 4, 5], [[2, 1, 1, 0, 0, 0]] * 3))
        self.assertIsNot(twice[1], twice[2])

    def test_a_list_that_is_changed_later(self):
        members, days, counters = list(MEMBERS), [1, 3], [[1, 1, 0, 0], [2, 1, 1, 0, 0, 0]]
        told = reports.stretch_clubs((members, days, counters))
        for row in (members, days, counters[0], counters[1], counters):
            row.clear()
        self.assertEqual(told, stretches_by_hand(SHEET))


class EdgesTest(unittest.TestCase):
    def test_first_and_last_day(self):
        # On the first member's day and the day ahead of it, on the last one's and the day ahead of it.
        self.assertIs(reports.is_sheet((PAIR, [4, 7], [[0], [1, 0]])), True)
        self.assertIs(reports.is_sheet((PAIR, [3, 7], [[], [1, 0]])), False)
        self.assertIs(reports.is_sheet((PAIR, [4, 6], [[0], [0]])), False)
        self.assertEqual(answer_of(reports.report_ways, (PAIR, [4, 7], [[0], [1, 0]])), 1)

    def test_days_just_below_the_limit(self):
        members = [(TOP - 2, "alone"), (TOP - 1, "brought")]
        sheet = (members, [TOP - 2, TOP - 1], [[0], [1, 0]])
        told = [[(TOP - 1, "alone", 0)], [(0, "alone", 1), (TOP, "brought", 0)]]
        self.assertEqual(answer_of(reports.stretch_clubs, sheet), told)
        self.assertEqual(answer_of(reports.report_bringers, sheet, 1), [0])
        self.assertTrue(all(clubs.is_club(club) for club in told))

    def test_two_members_of_one_day(self):
        members = [(5, "alone"), (5, "brought")]
        sheet = (members, [5], [[1, 0]])
        self.assertEqual(answer_of(reports.report_conflict, sheet), (0, ("day", 6)))
        members = [(5, "alone"), (6, "brought"), (6, "brought")]
        sheet = (members, [5, 6], [[0], [1, 1, 0]])
        self.assertEqual(answer_of(reports.report_conflict, sheet), (1, ("day", 7)))
        sheet = (members, [5, 6], [[0], [2, 0, 0]])
        self.assertEqual(answer_of(reports.report_bringers, sheet, 2), [0])

    def test_a_day_0_member_and_old_ones(self):
        # Old members stand on day 0, new ones of day 0 on day 1.
        sheet = ([(0, "alone"), (0, "alone")], [0, 1], [[0, 0], [0, 0]])
        told = [[(1, "alone", 0), (1, "alone", 0)], [(0, "alone", 0), (0, "alone", 0)]]
        self.assertEqual(answer_of(reports.stretch_clubs, sheet), told)

    def test_great_counters(self):
        sheet = ([(0, "alone")], [0, 1], [[0], [TOP]])
        self.assertEqual(answer_of(reports.report_conflict, sheet), (1, ("left", TOP)))
        self.assertEqual(answer_of(reports.fewer_by, sheet), (0, 0))
        sheet = ([(0, "alone")], [0, 1], [[TOP], [TOP]])
        self.assertEqual(answer_of(reports.report_conflict, sheet), (0, ("left", TOP)))
        self.assertEqual(conflict_in(reports.report_bringers, sheet, 0), ("left", TOP))


class WrongInputsTest(unittest.TestCase):
    def test_invalid_sheet(self):
        for sheet in NO_SHEETS:
            with self.subTest(sheet=sheet):
                for call in ABOUT_SHEET:
                    self.assertIs(kind_of(call, sheet), errors.InvalidSheet)
                for member in (0, -1, TOP):
                    self.assertIs(kind_of(reports.report_bringers, sheet, member), errors.InvalidSheet)

    def test_clubs_are_no_sheets(self):
        for thing in (EXAMPLE, (EXAMPLE, [3], [[2, 1, 1, 0, 0, 0]])):
            for call in ABOUT_SHEET:
                self.assertIs(kind_of(call, thing), errors.InvalidSheet)

    def test_invalid_member(self):
        for member in (-1, 6, 60, TOP, -TOP, True, False):
            self.assertIs(kind_of(reports.report_bringers, SHEET, member), errors.InvalidMember)

    def test_invalid_member_ahead_of_impossible(self):
        sheet = (MEMBERS, [1, 3], [[1, 0, 0, 0], [2, 2, 1, 0, 0, 0]])
        for member in (-1, 6, True):
            self.assertIs(kind_of(reports.report_bringers, sheet, member), errors.InvalidMember)
        for member in range(6):
            self.assertEqual(conflict_in(reports.report_bringers, sheet, member), ("day", 2))

    def test_no_possible_stretches_are_needed(self):
        sheet = (MEMBERS, [1, 3], [[1, 0, 0, 0], [2, 2, 1, 0, 0, 0]])
        for call in ABOUT_SHEET:
            answer_of(call, sheet)

    def test_by_name(self):
        self.assertIs(reports.is_sheet(thing=SHEET), True)
        self.assertEqual(reports.stretch_clubs(sheet=SHEET), stretches_by_hand(SHEET))
        self.assertIsNone(reports.report_conflict(sheet=SHEET))
        self.assertEqual(reports.report_ways(sheet=SHEET), 4)
        self.assertEqual(reports.report_bringers(member=4, sheet=SHEET), [0, 2])
        self.assertEqual(reports.fewer_by(sheet=SHEET), (4, 6))


if __name__ == "__main__":
    unittest.main()
