import random
import unittest
from fractions import Fraction

from broughtin import clubs, errors, families, lines, ways
from trial import (
    EXAMPLE, INVALID_CLUBS, NO_GROUPS, NO_MEMBERS, NOT_POSSIBLE, TOP, added, answer_of, conflict_in, family_in,
    fraction_of, kind_of, line_up, sublists, tried_clubs, wide_clubs,
)

ALONE = [(0, "alone", 0), (5, "alone", 0)]
# Slack is 1, 1, 1, 0 on the days 1 to 4: two lines upward cannot both span a day.
NARROW = [(0, "alone", 1), (0, "alone", 1), (1, "brought", 1), (2, "brought", 1), (3, "brought", 1), (4, "brought", 0)]
NARROW += [(4, "brought", 0)]
# Member 0 has two slots; both lines go up to it if slack lets them.
FORKED = [(0, "alone", 2), (0, "alone", 1), (1, "brought", 1), (2, "brought", 0), (2, "brought", 0), (3, "brought", 0)]


def days_against(club, member, group):
    """All days on which the slots of such a family do not come out."""
    number = club[member][2]
    found = []
    for day in sorted({row[0] for row in club if row[0] > club[member][0]}):
        left = number + sum(club[i][2] for i in group if club[i][0] < day) - sum(club[i][0] <= day for i in group)
        if left < 0 or left > clubs.slack_at(club, day):
            found.append(day)
    return found


class ExampleTest(unittest.TestCase):
    def test_family_of_member_zero(self):
        self.assertEqual(answer_of(families.family_sizes, EXAMPLE, 0), [2, 3])
        self.assertEqual(answer_of(families.family_shares, EXAMPLE, 0), [(2, 1, 3), (3, 2, 3)])
        for size in (2, 3):
            way = answer_of(families.family_way, EXAMPLE, 0, size)
            self.assertIs(ways.is_way(EXAMPLE, way), True)
            self.assertEqual(len(family_in(way, 0)), size)

    def test_groups(self):
        self.assertIs(answer_of(families.can_be_family, EXAMPLE, 0, [2, 3, 4]), True)
        self.assertIsNone(answer_of(families.family_paper, EXAMPLE, 0, [2, 3, 4]))
        self.assertIs(answer_of(families.can_be_family, EXAMPLE, 0, [2, 3]), False)
        self.assertEqual(answer_of(families.family_paper, EXAMPLE, 0, [2, 3]), 3)
        self.assertIs(answer_of(families.can_be_family, EXAMPLE, 0, [3, 5]), True)
        self.assertIs(answer_of(families.can_be_family, EXAMPLE, 0, [4, 5]), False)
        self.assertEqual(answer_of(families.family_paper, EXAMPLE, 0, [4, 5]), 1)

    def test_roots(self):
        self.assertIs(answer_of(families.can_share_root, EXAMPLE, 0, 1), False)
        self.assertIs(answer_of(families.can_share_root, EXAMPLE, 4, 5), True)
        self.assertIs(answer_of(families.can_share_root, EXAMPLE, 2, 3), True)
        self.assertIs(answer_of(families.can_share_root, EXAMPLE, 1, 5), True)


class PaperTest(unittest.TestCase):
    def test_below_zero(self):
        # On day 2 the family would take a slot that it does not have.
        club = [(0, "alone", 1), (0, "alone", 2), (1, "brought", 0), (2, "brought", 0), (TOP, "brought", 0)]
        self.assertEqual(answer_of(families.family_paper, club, 0, [2, 3]), 2)
        self.assertEqual(answer_of(families.family_paper, club, 0, [2, 4]), TOP)
        self.assertIsNone(answer_of(families.family_paper, club, 0, [4]))

    def test_above_slack(self):
        # Nobody of the family comes until too few slots are left for it to fill.
        club = [(0, "alone", 2), (0, "alone", 1), (1, "brought", 0), (2, "brought", 0), (TOP, "brought", 0)]
        self.assertEqual(answer_of(families.family_paper, club, 0, [4]), 2)
        self.assertEqual(answer_of(families.family_paper, club, 0, [2]), TOP)
        self.assertIsNone(answer_of(families.family_paper, club, 0, [3, 4]))

    def test_slots_open_on_the_next_day(self):
        club = [(0, "alone", 1), (0, "alone", 1), (1, "brought", 1), (1, "brought", 0), (2, "brought", 0)]
        self.assertIsNone(answer_of(families.family_paper, club, 0, [2, 4]))
        self.assertEqual(answer_of(families.family_paper, club, 0, [2, 3]), 1)
        self.assertEqual(answer_of(families.family_paper, club, 0, [3, 4]), 2)

    def test_only_days_behind_the_member(self):
        self.assertIsNone(answer_of(families.family_paper, EXAMPLE, 2, [4]))
        self.assertIsNone(answer_of(families.family_paper, EXAMPLE, 5, []))
        self.assertEqual(answer_of(families.family_paper, EXAMPLE, 2, []), 3)

    def test_groups_without_the_form(self):
        # One who came alone, one of the same day, one of an earlier day, the member itself.
        for member, group in ((0, [1, 2]), (0, [0]), (2, [3]), (2, [2, 4]), (4, [2]), (0, [0, 1, 2, 3, 4, 5])):
            with self.subTest(member=member, group=group):
                self.assertIs(kind_of(families.family_paper, EXAMPLE, member, group), errors.InvalidGroup)
                self.assertIs(answer_of(families.can_be_family, EXAMPLE, member, group), False)


class RootTest(unittest.TestCase):
    def test_slack_that_lets_no_two_lines_pass(self):
        self.assertEqual([clubs.slack_at(NARROW, day) for day in (1, 2, 3, 4)], [1, 1, 1, 0])
        self.assertIs(answer_of(families.can_share_root, NARROW, 5, 6), False)
        self.assertIs(answer_of(families.can_share_root, NARROW, 2, 3), True)

    def test_a_fork(self):
        self.assertEqual([clubs.slack_at(FORKED, day) for day in (1, 2, 3)], [2, 1, 0])
        self.assertIs(answer_of(families.can_share_root, FORKED, 3, 4), True)
        self.assertIs(answer_of(families.can_share_root, FORKED, 4, 5), True)
        closed = [(0, "alone", 2), (1, "brought", 0), (1, "brought", 0), (1, "alone", 1), (2, "brought", 0)]
        self.assertIs(answer_of(families.can_share_root, closed, 1, 2), True)
        self.assertIs(answer_of(families.can_share_root, closed, 1, 4), False)
        self.assertIs(answer_of(families.can_share_root, closed, 0, 3), False)

    def test_one_with_itself(self):
        for club in (EXAMPLE, NARROW, FORKED, ALONE):
            for member in range(len(club)):
                self.assertIs(answer_of(families.can_share_root, club, member, member), True)

    def test_a_fork_far_above(self):
        # Day 2 .. 57 have slack 2, so two lines of single links run side by side.
        club = [(0, "alone", 2)]
        for day in range(1, 29):
            club += [(day, "brought", 1), (day, "brought", 1)]
        club += [(TOP, "brought", 0), (TOP, "brought", 0)]
        self.assertIs(answer_of(families.can_share_root, club, 57, 58), True)
        two = [(0, "alone", 1), (0, "alone", 1)] + club[1:]
        self.assertIs(answer_of(families.can_share_root, two, 58, 59), False)
        self.assertIs(answer_of(families.can_share_root, two, 2, 59), True)


class AgainstAllWaysTest(unittest.TestCase):
    def test_sizes(self):
        for club, found in tried_clubs():
            for member in range(len(club)):
                sizes = [len(family_in(way, member)) for way in found]
                told = sorted(set(sizes))
                case = (club, member)
                self.assertEqual(families.family_sizes(club, member), told, case)
                parts = [(size, *fraction_of(sizes.count(size), len(found))) for size in told]
                self.assertEqual(families.family_shares(club, member), parts, case)
                for size in range(-1, len(club) + 1):
                    if size in told:
                        way = families.family_way(club, member, size)
                        self.assertIs(ways.is_way(club, way), True, case)
                        self.assertEqual(len(family_in(way, member)), size, case)
                    else:
                        self.assertIs(kind_of(families.family_way, club, member, size), errors.InvalidNumber, case)

    def test_groups(self):
        for club, found in tried_clubs():
            brought = clubs.brought_in(club)
            for member in range(len(club)):
                told = [family_in(way, member) for way in found]
                for group in sublists(brought):
                    case = (club, member, group)
                    self.assertIs(families.can_be_family(club, member, group), group in told, case)
                    if all(club[i][0] > club[member][0] for i in group):
                        days = days_against(club, member, group)
                        self.assertEqual(families.family_paper(club, member, group), days[0] if days else None, case)
                        self.assertEqual(days == [], group in told, case)
                    else:
                        self.assertIs(kind_of(families.family_paper, club, member, group), errors.InvalidGroup, case)

    def test_roots(self):
        for club, found in tried_clubs():
            tops = [[line_up(way, member)[-1] for member in range(len(club))] for way in found]
            for one in range(len(club)):
                for two in range(len(club)):
                    told = any(top[one] == top[two] for top in tops)
                    self.assertIs(families.can_share_root(club, one, two), told, (club, one, two))


class WideClubsTest(unittest.TestCase):
    def test_shares_of_all_sizes_add_up(self):
        for club in wide_clubs():
            for member in range(0, len(club), 3):
                told = answer_of(families.family_shares, club, member)
                self.assertEqual(added(row[1:] for row in told), 1)
                self.assertEqual([row[0] for row in told], answer_of(families.family_sizes, club, member))
                mean = sum(size * Fraction(top, bottom) for size, top, bottom in told)
                self.assertEqual(lines.mean_below(club, member), fraction_of(mean, 1))

    def test_ways_of_all_sizes(self):
        for club in wide_clubs():
            for member in (0, 1, len(club) // 4, len(club) - 1):
                sizes = families.family_sizes(club, member)
                for size in sizes:
                    way = answer_of(families.family_way, club, member, size)
                    self.assertIs(ways.is_way(club, way), True)
                    family = family_in(way, member)
                    self.assertEqual(len(family), size)
                    self.assertIs(answer_of(families.can_be_family, club, member, family), True)
                    self.assertIsNone(answer_of(families.family_paper, club, member, family))
                for size in (sizes[0] - 1, sizes[-1] + 1, -1, 60, TOP, -TOP):
                    self.assertIs(kind_of(families.family_way, club, member, size), errors.InvalidNumber)

    def test_families_of_ways(self):
        chance = random.Random(17)
        for club in wide_clubs():
            for _ in range(5):
                way = ways.nth_way(club, chance.randrange(ways.count_ways(club)))
                for member in range(0, len(club), 4):
                    family = family_in(way, member)
                    self.assertIs(families.can_be_family(club, member, family), True)
                    self.assertIn(len(family), families.family_sizes(club, member))
                one, two = chance.randrange(len(club)), chance.randrange(len(club))
                if line_up(way, one)[-1] == line_up(way, two)[-1]:
                    self.assertIs(answer_of(families.can_share_root, club, one, two), True)

    def test_lines_share_a_root(self):
        for club in wide_clubs():
            for below in range(1, len(club), 5):
                for above in range(0, below, 4):
                    told = answer_of(families.can_share_root, club, above, below)
                    self.assertEqual(told, families.can_share_root(club, below, above))
                    if lines.can_descend(club, above, below):
                        self.assertIs(told, True)
                    elif club[below][1] == "alone" or club[above][1] == "alone":
                        self.assertIs(told, False)


class EdgesTest(unittest.TestCase):
    def test_number_zero(self):
        for member in (3, 4, 5):
            self.assertEqual(answer_of(families.family_sizes, EXAMPLE, member), [0])
            self.assertEqual(answer_of(families.family_shares, EXAMPLE, member), [(0, 1, 1)])
            self.assertIs(ways.is_way(EXAMPLE, answer_of(families.family_way, EXAMPLE, member, 0)), True)
            self.assertIs(answer_of(families.can_be_family, EXAMPLE, member, []), True)
            self.assertIsNone(answer_of(families.family_paper, EXAMPLE, member, []))

    def test_nobody_brought(self):
        self.assertEqual(answer_of(families.family_sizes, ALONE, 1), [0])
        self.assertEqual(answer_of(families.family_way, ALONE, 0, 0), [None, None])
        self.assertEqual(answer_of(families.family_shares, ALONE, 0), [(0, 1, 1)])
        self.assertIs(answer_of(families.can_be_family, ALONE, 0, []), True)
        self.assertIs(answer_of(families.can_be_family, ALONE, 0, [1]), False)
        self.assertIs(kind_of(families.family_paper, ALONE, 0, [1]), errors.InvalidGroup)
        self.assertIs(answer_of(families.can_share_root, ALONE, 0, 1), False)

    def test_empty_family_of_one_who_brought(self):
        self.assertIs(answer_of(families.can_be_family, EXAMPLE, 0, []), False)
        self.assertEqual(answer_of(families.family_paper, EXAMPLE, 0, []), 1)

    def test_everybody_below(self):
        club = [(0, "alone", 2), (1, "brought", 1), (2, "brought", 0), (TOP, "brought", 0)]
        self.assertEqual(answer_of(families.family_sizes, club, 0), [3])
        self.assertIsNone(answer_of(families.family_paper, club, 0, [1, 2, 3]))
        self.assertEqual(answer_of(families.family_shares, club, 1), [(1, 1, 1)])

    def test_sizes_with_gaps(self):
        club = [(0, "alone", 1), (0, "alone", 1), (1, "brought", 0), (1, "brought", 3)] + [(2, "brought", 0)] * 3
        self.assertEqual(answer_of(families.family_shares, club, 0), [(1, 1, 2), (4, 1, 2)])
        for size in (0, 2, 3, 5):
            self.assertIs(kind_of(families.family_way, club, 0, size), errors.InvalidNumber)

    def test_sizes_at_both_ends_and_outside(self):
        for size in (-TOP, -1, 0, 1, 4, 5, TOP):
            self.assertIs(kind_of(families.family_way, EXAMPLE, 0, size), errors.InvalidNumber)


class WrongInputsTest(unittest.TestCase):
    def test_invalid_club(self):
        for club in INVALID_CLUBS:
            with self.subTest(club=club):
                for call in (families.family_sizes, families.family_shares):
                    self.assertIs(kind_of(call, club, 0), errors.InvalidClub)
                    self.assertIs(kind_of(call, club, -1), errors.InvalidClub)
                self.assertIs(kind_of(families.family_way, club, -1, -1), errors.InvalidClub)
                self.assertIs(kind_of(families.can_be_family, club, -1, None), errors.InvalidClub)
                self.assertIs(kind_of(families.family_paper, club, -1, None), errors.InvalidClub)
                self.assertIs(kind_of(families.can_share_root, club, -1, -1), errors.InvalidClub)

    def test_invalid_member(self):
        for wrong in NO_MEMBERS:
            with self.subTest(wrong=wrong):
                for call in (families.family_sizes, families.family_shares):
                    self.assertIs(kind_of(call, EXAMPLE, wrong), errors.InvalidMember)
                self.assertIs(kind_of(families.family_way, EXAMPLE, wrong, -1), errors.InvalidMember)
                self.assertIs(kind_of(families.can_be_family, EXAMPLE, wrong, None), errors.InvalidMember)
                self.assertIs(kind_of(families.family_paper, EXAMPLE, wrong, None), errors.InvalidMember)
                self.assertIs(kind_of(families.can_share_root, EXAMPLE, wrong, 2), errors.InvalidMember)
                self.assertIs(kind_of(families.can_share_root, EXAMPLE, 2, wrong), errors.InvalidMember)

    def test_invalid_group(self):
        for group in NO_GROUPS:
            with self.subTest(group=group):
                self.assertIs(kind_of(families.can_be_family, EXAMPLE, 0, group), errors.InvalidGroup)
                self.assertIs(kind_of(families.family_paper, EXAMPLE, 0, group), errors.InvalidGroup)

    def test_invalid_ones_ahead_of_impossible(self):
        for club, _ in NOT_POSSIBLE:
            for call in (families.family_sizes, families.family_shares):
                self.assertIs(kind_of(call, club, len(club)), errors.InvalidMember)
            self.assertIs(kind_of(families.family_way, club, -1, -1), errors.InvalidMember)
            self.assertIs(kind_of(families.can_share_root, club, 0, -1), errors.InvalidMember)
            for group in NO_GROUPS:
                self.assertIs(kind_of(families.can_be_family, club, 0, group), errors.InvalidGroup)
                self.assertIs(kind_of(families.family_paper, club, 0, group), errors.InvalidGroup)
            for group in ([0], [0, 1]):
                self.assertIs(kind_of(families.family_paper, club, 0, group), errors.InvalidGroup)

    def test_impossible_with_what_conflict_of_tells(self):
        for club, conflict in NOT_POSSIBLE:
            with self.subTest(club=club):
                for call in (families.family_sizes, families.family_shares):
                    self.assertEqual(conflict_in(call, club, 0), conflict)
                for size in (-1, 0, 1, TOP):
                    self.assertEqual(conflict_in(families.family_way, club, 0, size), conflict)
                for group in ([], [0], [1], [0, 1, 2]):
                    self.assertEqual(conflict_in(families.can_be_family, club, 0, group), conflict)
                self.assertEqual(conflict_in(families.family_paper, club, 0, []), conflict)
                self.assertEqual(conflict_in(families.can_share_root, club, 0, 0), conflict)

    def test_by_name(self):
        self.assertEqual(families.family_sizes(member=0, club=EXAMPLE), [2, 3])
        self.assertEqual(len(family_in(families.family_way(size=3, member=0, club=EXAMPLE), 0)), 3)
        self.assertEqual(families.family_shares(member=0, club=EXAMPLE), [(2, 1, 3), (3, 2, 3)])
        self.assertIs(families.can_be_family(group=[3, 5], member=0, club=EXAMPLE), True)
        self.assertEqual(families.family_paper(group=[4, 5], member=0, club=EXAMPLE), 1)
        self.assertIs(families.can_share_root(two=5, one=0, club=EXAMPLE), True)


if __name__ == "__main__":
    unittest.main()
