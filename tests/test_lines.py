import unittest
from fractions import Fraction

from broughtin import clubs, errors, lines, links, shares, ways
from trial import (
    EXAMPLE, INVALID_CLUBS, NO_MEMBERS, NOT_POSSIBLE, TOP, added, answer_of, conflict_in, fraction_of, kind_of,
    family_in, line_up, tried_clubs, wide_clubs,
)

ALONE = [(0, "alone", 0), (5, "alone", 0)]
# Two closing days, 2 and 5; on day 2 nobody brought goes on, on day 5 member 5 does.
CUT = [
    (0, "alone", 2), (1, "brought", 0), (2, "brought", 0), (2, "alone", 2), (4, "brought", 0), (5, "brought", 1),
    (5, "alone", 0), (9, "brought", 0),
]
# Slack is 1, 2, 1, 0 on the days 1, 2, 3, 4: lines of many lengths.
LONG = [(0, "alone", 2), (1, "brought", 2), (2, "brought", 1), (3, "brought", 0), (3, "brought", 1), (4, "brought", 0)]
LONG += [(4, "brought", 0)]

ONE = [lines.depths_of, lines.depth_shares, lines.mean_below]
TWO = [lines.can_descend, lines.descend_paper, lines.step_range, lines.descent_share]


def reasons_by_counting(club, above, below):
    """All reasons against a line in the sequence in which they are told."""
    reasons = []
    if club[below][1] == "alone":
        reasons.append(("alone",))
    if club[above][2] == 0:
        reasons.append(("none",))
    if club[above][0] >= club[below][0]:
        reasons.append(("days",))
    for day in links.closing_days(club):
        there = [row for row in club if row[0] == day and row[1] == "brought" and row[2] > 0]
        if club[above][0] < day < club[below][0] and not there:
            reasons.append(("closing", day))
    return reasons


class ExampleTest(unittest.TestCase):
    def test_member_five_below_member_zero(self):
        self.assertEqual(answer_of(lines.descent_share, EXAMPLE, 0, 5), (2, 3))
        self.assertIs(answer_of(lines.can_descend, EXAMPLE, 0, 5), True)
        self.assertIsNone(answer_of(lines.descend_paper, EXAMPLE, 0, 5))
        self.assertEqual(answer_of(lines.step_range, EXAMPLE, 0, 5), (1, 2))

    def test_ways_with_so_many_steps(self):
        for steps in (1, 2):
            way = answer_of(lines.line_with, EXAMPLE, 0, 5, steps)
            self.assertIs(ways.is_way(EXAMPLE, way), True)
            self.assertEqual(line_up(way, 5).index(0), steps)

    def test_depths(self):
        depths = [answer_of(lines.depths_of, EXAMPLE, member) for member in range(6)]
        self.assertEqual(depths, [[0], [0], [1], [1], [1, 2], [1, 2]])
        self.assertEqual(answer_of(lines.depth_shares, EXAMPLE, 0), [(0, 1, 1)])
        self.assertEqual(answer_of(lines.depth_shares, EXAMPLE, 3), [(1, 1, 1)])
        self.assertEqual(answer_of(lines.depth_shares, EXAMPLE, 4), [(1, 1, 2), (2, 1, 2)])
        self.assertEqual(answer_of(lines.generations, EXAMPLE), 2)

    def test_mean_below(self):
        # Member 0 has a family of 2 in 1/3 of the ways, else of 3.
        self.assertEqual(answer_of(lines.mean_below, EXAMPLE, 0), (8, 3))
        self.assertEqual(answer_of(lines.mean_below, EXAMPLE, 1), (4, 3))
        self.assertEqual(answer_of(lines.mean_below, EXAMPLE, 2), (1, 1))
        self.assertEqual(answer_of(lines.mean_below, EXAMPLE, 5), (0, 1))


class PaperTest(unittest.TestCase):
    def test_closing_days(self):
        self.assertEqual(links.closing_days(CUT), [2, 5, 9])

    def test_each_reason_alone(self):
        self.assertEqual(answer_of(lines.descend_paper, CUT, 0, 3), ("alone",))
        self.assertEqual(answer_of(lines.descend_paper, CUT, 1, 2), ("none",))
        self.assertEqual(answer_of(lines.descend_paper, CUT, 3, 2), ("days",))
        self.assertEqual(answer_of(lines.descend_paper, CUT, 5, 5), ("days",))
        self.assertEqual(answer_of(lines.descend_paper, CUT, 0, 4), ("closing", 2))

    def test_first_of_several_reasons(self):
        self.assertEqual(answer_of(lines.descend_paper, CUT, 6, 6), ("alone",))
        self.assertEqual(answer_of(lines.descend_paper, CUT, 6, 0), ("alone",))
        self.assertEqual(answer_of(lines.descend_paper, CUT, 5, 3), ("alone",))
        self.assertEqual(answer_of(lines.descend_paper, CUT, 0, 6), ("alone",))
        self.assertEqual(answer_of(lines.descend_paper, CUT, 2, 1), ("none",))
        self.assertEqual(answer_of(lines.descend_paper, CUT, 1, 7), ("none",))
        self.assertEqual(answer_of(lines.descend_paper, CUT, 0, 7), ("closing", 2))

    def test_a_line_across_a_closing_day(self):
        # Day 5 is spanned by no link, but member 5 stands on it.
        self.assertIs(links.can_bring(CUT, 3, 7), False)
        self.assertIsNone(answer_of(lines.descend_paper, CUT, 3, 7))
        self.assertEqual(answer_of(lines.step_range, CUT, 3, 7), (2, 2))

    def test_one_who_came_alone_bridges_nothing(self):
        club = [(0, "alone", 1), (1, "brought", 0), (1, "alone", 1), (TOP, "brought", 0)]
        self.assertEqual(answer_of(lines.descend_paper, club, 0, 3), ("closing", 1))

    def test_least_closing_day_without_a_bridge(self):
        club = [(0, "alone", 1), (1, "brought", 1), (2, "brought", 0), (2, "alone", 1), (3, "brought", 0)]
        club += [(3, "alone", 1), (4, "brought", 0)]
        self.assertEqual(links.closing_days(club), [1, 2, 3, 4])
        self.assertEqual(answer_of(lines.descend_paper, club, 0, 6), ("closing", 2))
        self.assertEqual(answer_of(lines.descend_paper, club, 3, 6), ("closing", 3))
        self.assertIsNone(answer_of(lines.descend_paper, club, 0, 2))


class AgainstAllWaysTest(unittest.TestCase):
    def test_pairs(self):
        for club, found in tried_clubs():
            ups = [[line_up(way, member) for member in range(len(club))] for way in found]
            for above in range(len(club)):
                for below in range(len(club)):
                    self.hold_pair(club, above, below, [up[below].index(above) for up in ups if above in up[below]])

    def hold_pair(self, club, above, below, told):
        steps = sorted({step for step in told if step > 0})
        case = (club, above, below)
        self.assertIs(lines.can_descend(club, above, below), steps != [], case)
        reasons = reasons_by_counting(club, above, below)
        self.assertEqual(lines.descend_paper(club, above, below), reasons[0] if reasons else None, case)
        self.assertEqual(reasons == [], steps != [], case)
        ends = (steps[0], steps[-1]) if steps else None
        self.assertEqual(lines.step_range(club, above, below), ends, case)
        if steps:
            self.assertEqual(steps, list(range(steps[0], steps[-1] + 1)), case)
        often = len([step for step in told if step > 0])
        self.assertEqual(lines.descent_share(club, above, below), fraction_of(often, ways.count_ways(club)), case)
        for step in range(-1, len(club) + 1):
            if step in steps:
                way = lines.line_with(club, above, below, step)
                self.assertIs(ways.is_way(club, way), True, case)
                self.assertEqual(line_up(way, below)[step], above, case)
            else:
                self.assertIs(kind_of(lines.line_with, club, above, below, step), errors.NoLink, case)

    def test_members(self):
        for club, found in tried_clubs():
            greatest = 0
            for member in range(len(club)):
                depths = [len(line_up(way, member)) - 1 for way in found]
                told = sorted(set(depths))
                self.assertEqual(lines.depths_of(club, member), told, (club, member))
                parts = [(depth, *fraction_of(depths.count(depth), len(found))) for depth in told]
                self.assertEqual(lines.depth_shares(club, member), parts, (club, member))
                total = sum(len(family_in(way, member)) for way in found)
                self.assertEqual(lines.mean_below(club, member), fraction_of(total, len(found)), (club, member))
                greatest = max(greatest, told[-1])
            self.assertEqual(lines.generations(club), greatest, club)

    def test_all_steps_between_the_ends(self):
        self.assertEqual([clubs.slack_at(LONG, day) for day in (1, 2, 3, 4)], [1, 2, 1, 0])
        self.assertEqual(answer_of(lines.step_range, LONG, 0, 6), (1, 4))
        for steps in (1, 2, 3, 4):
            self.assertEqual(line_up(answer_of(lines.line_with, LONG, 0, 6, steps), 6)[steps], 0)
        self.assertEqual(answer_of(lines.depths_of, LONG, 6), [1, 2, 3, 4])
        self.assertEqual(answer_of(lines.generations, LONG), 4)


class WideClubsTest(unittest.TestCase):
    def test_shares_of_all_depths_add_up(self):
        for club in wide_clubs():
            greatest = 0
            for member in range(0, len(club), 3):
                told = answer_of(lines.depth_shares, club, member)
                self.assertEqual(added(row[1:] for row in told), 1)
                self.assertEqual([row[0] for row in told], answer_of(lines.depths_of, club, member))
                greatest = max(greatest, told[-1][0])
            self.assertLessEqual(greatest, answer_of(lines.generations, club))

    def test_generations_is_the_greatest_depth(self):
        for club in wide_clubs():
            depths = [lines.depths_of(club, member)[-1] for member in range(len(club))]
            self.assertEqual(lines.generations(club), max(depths))

    def test_mean_is_a_sum_of_shares(self):
        for club in wide_clubs():
            for member in (0, 1, len(club) // 3):
                told = added(lines.descent_share(club, member, below) for below in range(len(club)))
                self.assertEqual(answer_of(lines.mean_below, club, member), fraction_of(told, 1))
            self.assertEqual(answer_of(lines.mean_below, club, len(club) - 1), (0, 1))

    def test_shares_of_those_who_came_alone_add_up(self):
        for club in wide_clubs():
            roots = [i for i, row in enumerate(club) if row[1] == "alone"]
            for below in clubs.brought_in(club)[::5]:
                self.assertEqual(added(lines.descent_share(club, root, below) for root in roots), 1)

    def test_shares_from_the_bringers_of_a_guest(self):
        for club in wide_clubs():
            below = clubs.brought_in(club)[-1]
            told = shares.bringer_shares(club, below)
            for above in range(0, len(club), 4):
                part = Fraction(0)
                for i, top, bottom in told:
                    rest = Fraction(1) if i == above else Fraction(*lines.descent_share(club, above, i))
                    part += Fraction(top, bottom) * rest
                self.assertEqual(Fraction(*lines.descent_share(club, above, below)), part)

    def test_lines_with_all_steps(self):
        for club in wide_clubs():
            for below in clubs.brought_in(club)[::7]:
                for above in range(0, below, 4):
                    self.hold_line(club, above, below)

    def hold_line(self, club, above, below):
        ends = answer_of(lines.step_range, club, above, below)
        self.assertEqual(ends is None, answer_of(lines.descend_paper, club, above, below) is not None)
        if ends is None:
            self.assertEqual(lines.descent_share(club, above, below), (0, 1))
            self.assertIs(kind_of(lines.line_with, club, above, below, 1), errors.NoLink)
            return
        for steps in range(ends[0], ends[1] + 1):
            way = answer_of(lines.line_with, club, above, below, steps)
            self.assertIs(ways.is_way(club, way), True)
            self.assertEqual(line_up(way, below)[steps], above)
        for steps in (ends[0] - 1, ends[1] + 1, 0, -1, TOP, -TOP):
            self.assertIs(kind_of(lines.line_with, club, above, below, steps), errors.NoLink)

    def test_a_line_of_sixty(self):
        club = [(0, "alone", 1)] + [(day, "brought", 1) for day in range(1, 59)] + [(TOP, "brought", 0)]
        self.assertEqual(answer_of(lines.step_range, club, 0, 59), (59, 59))
        self.assertEqual(answer_of(lines.generations, club), 59)
        self.assertEqual(answer_of(lines.line_with, club, 0, 59, 59), [None] + list(range(59)))
        self.assertEqual(answer_of(lines.depth_shares, club, 30), [(30, 1, 1)])
        self.assertEqual(answer_of(lines.mean_below, club, 10), (49, 1))


class EdgesTest(unittest.TestCase):
    def test_a_member_with_itself(self):
        for member in range(6):
            reason = ("alone",) if member < 2 else ("days",) if member == 2 else ("none",)
            self.assertIs(answer_of(lines.can_descend, EXAMPLE, member, member), False)
            self.assertEqual(answer_of(lines.descend_paper, EXAMPLE, member, member), reason)
            self.assertIsNone(answer_of(lines.step_range, EXAMPLE, member, member))
            self.assertEqual(answer_of(lines.descent_share, EXAMPLE, member, member), (0, 1))
            self.assertIs(kind_of(lines.line_with, EXAMPLE, member, member, 0), errors.NoLink)

    def test_nobody_brought(self):
        self.assertEqual(answer_of(lines.depths_of, ALONE, 1), [0])
        self.assertEqual(answer_of(lines.depth_shares, ALONE, 0), [(0, 1, 1)])
        self.assertEqual(answer_of(lines.generations, ALONE), 0)
        self.assertEqual(answer_of(lines.mean_below, ALONE, 0), (0, 1))
        self.assertEqual(answer_of(lines.descent_share, ALONE, 0, 1), (0, 1))
        self.assertIsNone(answer_of(lines.step_range, ALONE, 0, 1))

    def test_steps_at_both_ends_and_outside(self):
        for steps in (-TOP, -1, 0, 3, 4, 60, TOP):
            self.assertIs(kind_of(lines.line_with, EXAMPLE, 0, 5, steps), errors.NoLink)
        for steps in (-1, 0, 1, 2):
            self.assertIs(kind_of(lines.line_with, EXAMPLE, 3, 5, steps), errors.NoLink)
            self.assertIs(kind_of(lines.line_with, EXAMPLE, 0, 1, steps), errors.NoLink)

    def test_lines_that_start_at_one_who_was_brought(self):
        club = [(0, "alone", 1), (1, "brought", 2), (2, "brought", 1), (3, "brought", 0), (3, "brought", 0)]
        self.assertEqual(answer_of(lines.step_range, club, 1, 4), (1, 2))
        self.assertEqual(answer_of(lines.descent_share, club, 2, 4), (1, 2))
        self.assertEqual(answer_of(lines.depth_shares, club, 4), [(2, 1, 2), (3, 1, 2)])


class WrongInputsTest(unittest.TestCase):
    def test_invalid_club(self):
        for club in INVALID_CLUBS:
            with self.subTest(club=club):
                for call in ONE:
                    self.assertIs(kind_of(call, club, 0), errors.InvalidClub)
                    self.assertIs(kind_of(call, club, -1), errors.InvalidClub)
                for call in TWO:
                    self.assertIs(kind_of(call, club, 0, 1), errors.InvalidClub)
                    self.assertIs(kind_of(call, club, -1, 61), errors.InvalidClub)
                self.assertIs(kind_of(lines.generations, club), errors.InvalidClub)
                self.assertIs(kind_of(lines.line_with, club, -1, -1, -1), errors.InvalidClub)

    def test_invalid_member(self):
        for wrong in NO_MEMBERS:
            with self.subTest(wrong=wrong):
                for call in ONE:
                    self.assertIs(kind_of(call, EXAMPLE, wrong), errors.InvalidMember)
                for call in TWO:
                    self.assertIs(kind_of(call, EXAMPLE, wrong, 5), errors.InvalidMember)
                    self.assertIs(kind_of(call, EXAMPLE, 0, wrong), errors.InvalidMember)
                self.assertIs(kind_of(lines.line_with, EXAMPLE, wrong, 5, 1), errors.InvalidMember)
                self.assertIs(kind_of(lines.line_with, EXAMPLE, 0, wrong, -1), errors.InvalidMember)

    def test_impossible_with_what_conflict_of_tells(self):
        for club, conflict in NOT_POSSIBLE:
            with self.subTest(club=club):
                for call in ONE:
                    self.assertEqual(conflict_in(call, club, 0), conflict)
                for call in TWO:
                    self.assertEqual(conflict_in(call, club, 0, 0), conflict)
                self.assertEqual(conflict_in(lines.generations, club), conflict)
                for steps in (-1, 0, 1, TOP):
                    self.assertEqual(conflict_in(lines.line_with, club, 0, 1, steps), conflict)

    def test_invalid_member_ahead_of_impossible(self):
        for club, _ in NOT_POSSIBLE:
            for call in ONE:
                self.assertIs(kind_of(call, club, len(club)), errors.InvalidMember)
            for call in TWO:
                self.assertIs(kind_of(call, club, 0, len(club)), errors.InvalidMember)
                self.assertIs(kind_of(call, club, -1, 0), errors.InvalidMember)
            self.assertIs(kind_of(lines.line_with, club, 0, -1, 0), errors.InvalidMember)

    def test_by_name(self):
        self.assertIs(lines.can_descend(below=5, above=0, club=EXAMPLE), True)
        self.assertEqual(lines.descend_paper(below=0, above=5, club=EXAMPLE), ("alone",))
        self.assertEqual(lines.step_range(below=5, above=0, club=EXAMPLE), (1, 2))
        way = lines.line_with(steps=2, below=5, above=0, club=EXAMPLE)
        self.assertEqual(line_up(way, 5), [5, 2, 0])
        self.assertEqual(lines.depths_of(member=5, club=EXAMPLE), [1, 2])
        self.assertEqual(lines.generations(club=EXAMPLE), 2)
        self.assertEqual(lines.descent_share(below=5, above=0, club=EXAMPLE), (2, 3))
        self.assertEqual(lines.depth_shares(member=0, club=EXAMPLE), [(0, 1, 1)])
        self.assertEqual(lines.mean_below(member=0, club=EXAMPLE), (8, 3))


if __name__ == "__main__":
    unittest.main()
