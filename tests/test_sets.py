import random
import unittest
from math import comb

from broughtin import clubs, errors, links, sets, shares, ways
from trial import (
    EXAMPLE, INVALID_CLUBS, NO_GROUPS, NO_MEMBERS, NOT_POSSIBLE, TOP, added, answer_of, conflict_in, fraction_of,
    kind_of, sublists, tried_clubs, wide_clubs,
)

ALONE = [(0, "alone", 0), (5, "alone", 0)]
# Slack is 2, 2, 1, 0 on the days 1, 2, 3, 4.
STEPPED = [
    (0, "alone", 3), (0, "alone", 1), (1, "brought", 2), (1, "brought", 0), (2, "brought", 1), (2, "brought", 0),
    (3, "brought", 0), (3, "brought", 0), (4, "brought", 0),
]
WITH_GROUP = [sets.can_have_brought, sets.set_paper, sets.set_index, sets.set_share]
WITHOUT_GROUP = [sets.count_sets, sets.second_sums, sets.second_range]


def sets_in(found, bringer):
    """For each way the ascending list of those whom one brought."""
    return [[member for member, by in enumerate(way) if by == bringer] for way in found]


def overfilled_days(club, bringer, group):
    """All days behind the bringer's on which more of the group are later than the slack."""
    days = sorted({row[0] for row in club if row[0] > club[bringer][0]})
    return [day for day in days if sum(club[i][0] > day for i in group) > clubs.slack_at(club, day)]


class ExampleTest(unittest.TestCase):
    def test_sets_of_member_zero(self):
        told = [[2, 3], [2, 4], [2, 5], [3, 4], [3, 5]]
        self.assertEqual(answer_of(sets.count_sets, EXAMPLE, 0), 5)
        self.assertEqual([answer_of(sets.nth_set, EXAMPLE, 0, index) for index in range(5)], told)
        self.assertEqual([answer_of(sets.set_index, EXAMPLE, 0, group) for group in told], list(range(5)))
        self.assertTrue(all(answer_of(sets.can_have_brought, EXAMPLE, 0, group) for group in told))
        parts = [answer_of(sets.set_share, EXAMPLE, 0, group) for group in told]
        self.assertEqual(parts, [(1, 3), (1, 6), (1, 6), (1, 6), (1, 6)])
        self.assertEqual(answer_of(sets.set_paper, EXAMPLE, 0, [2, 3]), None)

    def test_what_it_cannot_have_brought(self):
        self.assertIs(answer_of(sets.can_have_brought, EXAMPLE, 0, [4, 5]), False)
        self.assertEqual(answer_of(sets.set_paper, EXAMPLE, 0, [4, 5]), 1)
        self.assertEqual(answer_of(sets.set_share, EXAMPLE, 0, [4, 5]), (0, 1))

    def test_sums(self):
        self.assertEqual(answer_of(sets.second_sums, EXAMPLE, 0), [0, 1])
        self.assertEqual(answer_of(sets.second_range, EXAMPLE, 0), (0, 1))
        self.assertEqual(answer_of(sets.second_sums, EXAMPLE, 2), [0])
        self.assertEqual(answer_of(sets.second_range, EXAMPLE, 5), (0, 0))


class PaperTest(unittest.TestCase):
    def test_slack(self):
        self.assertEqual([clubs.slack_at(STEPPED, day) for day in (1, 2, 3, 4)], [2, 2, 1, 0])

    def test_least_day(self):
        self.assertIsNone(answer_of(sets.set_paper, STEPPED, 0, [2, 4, 6]))
        self.assertEqual(answer_of(sets.set_paper, STEPPED, 0, [4, 5, 6]), 1)
        self.assertEqual(answer_of(sets.set_paper, STEPPED, 0, [6, 7, 8]), 1)
        self.assertIsNone(answer_of(sets.set_paper, STEPPED, 0, [2, 7, 8]))
        self.assertIsNone(answer_of(sets.set_paper, STEPPED, 2, [7, 8]))
        late = [(0, "alone", 2), (1, "alone", 2), (2, "brought", 0), (2, "brought", 0), (TOP - 1, "brought", 0)]
        late += [(TOP, "brought", 0)]
        self.assertEqual([clubs.slack_at(late, day) for day in (1, 2, TOP - 1)], [2, 2, 1])
        self.assertIsNone(answer_of(sets.set_paper, late, 0, [4, 5]))
        tight = [(0, "alone", 2), (1, "alone", 1), (2, "brought", 0), (TOP - 1, "brought", 1), (TOP, "brought", 0)]
        tight += [(TOP, "brought", 0)]
        self.assertEqual([clubs.slack_at(tight, day) for day in (1, 2, TOP - 1, TOP)], [2, 2, 1, 0])
        self.assertEqual(answer_of(sets.set_paper, tight, 0, [4, 5]), TOP - 1)

    def test_groups_without_the_form(self):
        # Too few, too many, a member who came alone, one of the same day, one of an earlier day.
        for bringer, group in ((0, [2]), (0, []), (0, [2, 3, 4]), (0, [1, 2]), (2, [3]), (2, [2]), (2, [0]), (5, [2])):
            with self.subTest(bringer=bringer, group=group):
                self.assertIs(kind_of(sets.set_paper, EXAMPLE, bringer, group), errors.InvalidGroup)
                self.assertIs(answer_of(sets.can_have_brought, EXAMPLE, bringer, group), False)
                self.assertEqual(answer_of(sets.set_share, EXAMPLE, bringer, group), (0, 1))
                self.assertIs(kind_of(sets.set_index, EXAMPLE, bringer, group), errors.InvalidGroup)


class AgainstAllWaysTest(unittest.TestCase):
    def test_groups(self):
        for club, found in tried_clubs():
            brought = clubs.brought_in(club)
            for bringer in range(len(club)):
                told = sets_in(found, bringer)
                for group in sublists(brought):
                    self.hold_group(club, bringer, group, told)

    def hold_group(self, club, bringer, group, told):
        case = (club, bringer, group)
        self.assertIs(sets.can_have_brought(club, bringer, group), group in told, case)
        part = fraction_of(told.count(group), len(told))
        self.assertEqual(sets.set_share(club, bringer, group), part, case)
        if group not in told:
            self.assertIs(kind_of(sets.set_index, club, bringer, group), errors.InvalidGroup, case)
        later = all(club[member][0] > club[bringer][0] for member in group)
        if later and len(group) == club[bringer][2]:
            days = overfilled_days(club, bringer, group)
            self.assertEqual(sets.set_paper(club, bringer, group), days[0] if days else None, case)
            self.assertEqual(days == [], group in told, case)
        else:
            self.assertIs(kind_of(sets.set_paper, club, bringer, group), errors.InvalidGroup, case)

    def test_all_sets(self):
        for club, found in tried_clubs():
            for bringer in range(len(club)):
                told = sorted({tuple(group) for group in sets_in(found, bringer)})
                count = sets.count_sets(club, bringer)
                self.assertEqual(count, len(told), (club, bringer))
                listed = [sets.nth_set(club, bringer, index) for index in range(count)]
                self.assertEqual(listed, [list(group) for group in told], (club, bringer))
                indices = [sets.set_index(club, bringer, group) for group in listed]
                self.assertEqual(indices, list(range(count)), (club, bringer))
                sums = sorted({sum(club[i][2] for i in group) for group in told})
                self.assertEqual(sets.second_sums(club, bringer), sums, (club, bringer))
                self.assertEqual(sets.second_range(club, bringer), (sums[0], sums[-1]), (club, bringer))
                for index in (-1, count):
                    self.assertIs(kind_of(sets.nth_set, club, bringer, index), errors.InvalidIndex)


class WideClubsTest(unittest.TestCase):
    def test_there_and_back(self):
        chance = random.Random(14)
        for club in wide_clubs():
            for bringer in range(0, len(club), 3):
                count = answer_of(sets.count_sets, club, bringer)
                indices = sorted({0, count - 1} | {chance.randrange(count) for _ in range(6)})
                told = [answer_of(sets.nth_set, club, bringer, index) for index in indices]
                self.assertEqual(told, sorted(told))
                self.assertEqual([sets.set_index(club, bringer, group) for group in told], indices)
                for group in told:
                    self.assertEqual(group, sorted(set(group)))
                    self.assertEqual(len(group), club[bringer][2])
                    self.assertIs(sets.can_have_brought(club, bringer, group), True)
                    self.assertIsNone(sets.set_paper(club, bringer, group))
                for index in (-1, count, count + 1, -count - 1):
                    self.assertIs(kind_of(sets.nth_set, club, bringer, index), errors.InvalidIndex)

    def test_shares_of_all_sets_add_up(self):
        held = 0
        for club in wide_clubs():
            for bringer in range(len(club)):
                count = sets.count_sets(club, bringer)
                if count <= 60:
                    held += 1
                    groups = [sets.nth_set(club, bringer, index) for index in range(count)]
                    self.assertEqual(groups, sorted(groups))
                    parts = [answer_of(sets.set_share, club, bringer, group) for group in groups]
                    self.assertEqual(added(parts), 1)
                    self.assertNotIn((0, 1), parts)
                    sums = sorted({sum(club[i][2] for i in group) for group in groups})
                    self.assertEqual(answer_of(sets.second_sums, club, bringer), sums)
        self.assertGreater(held, 100)

    def test_agreement_with_ways_and_links(self):
        for club in wide_clubs():
            for index in (0, ways.count_ways(club) // 2, ways.count_ways(club) - 1):
                way = ways.nth_way(club, index)
                for bringer in range(0, len(club), 4):
                    group = [member for member, by in enumerate(way) if by == bringer]
                    self.assertIs(answer_of(sets.can_have_brought, club, bringer, group), True)
                    part = shares.joint_share(club, [(bringer, member) for member in group])
                    self.assertEqual(answer_of(sets.set_share, club, bringer, group), part)
                    total = sum(club[member][2] for member in group)
                    self.assertIn(total, answer_of(sets.second_sums, club, bringer))
                    self.assertTrue(set(group) <= set(links.brought_by(club, bringer)))

    def test_many_sets(self):
        club = [(0, "alone", 29), (0, "alone", 29)] + [(TOP, "brought", 0)] * 58
        count = answer_of(sets.count_sets, club, 0)
        self.assertEqual(count, comb(58, 29))
        self.assertEqual(answer_of(sets.nth_set, club, 0, 0), list(range(2, 31)))
        self.assertEqual(answer_of(sets.nth_set, club, 0, count - 1), list(range(31, 60)))
        self.assertEqual(answer_of(sets.set_index, club, 0, list(range(31, 60))), count - 1)
        self.assertEqual(answer_of(sets.set_share, club, 0, list(range(2, 31))), (1, count))
        self.assertIs(kind_of(sets.nth_set, club, 0, count), errors.InvalidIndex)


class EdgesTest(unittest.TestCase):
    def test_number_zero(self):
        for bringer in (3, 4, 5):
            self.assertEqual(answer_of(sets.count_sets, EXAMPLE, bringer), 1)
            self.assertEqual(answer_of(sets.nth_set, EXAMPLE, bringer, 0), [])
            self.assertEqual(answer_of(sets.set_index, EXAMPLE, bringer, []), 0)
            self.assertEqual(answer_of(sets.set_share, EXAMPLE, bringer, []), (1, 1))
            self.assertIs(answer_of(sets.can_have_brought, EXAMPLE, bringer, []), True)
            self.assertIsNone(answer_of(sets.set_paper, EXAMPLE, bringer, []))
            self.assertEqual(answer_of(sets.second_sums, EXAMPLE, bringer), [0])
            self.assertIs(kind_of(sets.nth_set, EXAMPLE, bringer, 1), errors.InvalidIndex)

    def test_nobody_brought(self):
        for bringer in (0, 1):
            self.assertEqual(answer_of(sets.count_sets, ALONE, bringer), 1)
            self.assertEqual(answer_of(sets.nth_set, ALONE, bringer, 0), [])
            self.assertIs(answer_of(sets.can_have_brought, ALONE, bringer, [1]), False)
            self.assertEqual(answer_of(sets.second_range, ALONE, bringer), (0, 0))

    def test_empty_group_for_one_who_brought(self):
        self.assertIs(answer_of(sets.can_have_brought, EXAMPLE, 0, []), False)
        self.assertEqual(answer_of(sets.set_share, EXAMPLE, 0, []), (0, 1))
        self.assertIs(kind_of(sets.set_index, EXAMPLE, 0, []), errors.InvalidGroup)

    def test_indices(self):
        for index in (-1, -5, 5, 6, TOP, -TOP, True, False):
            self.assertIs(kind_of(sets.nth_set, EXAMPLE, 0, index), errors.InvalidIndex)

    def test_all_members_as_a_group(self):
        everybody = list(range(6))
        self.assertIs(answer_of(sets.can_have_brought, EXAMPLE, 0, everybody), False)
        self.assertEqual(answer_of(sets.set_share, EXAMPLE, 0, everybody), (0, 1))
        self.assertIs(kind_of(sets.set_paper, EXAMPLE, 0, everybody), errors.InvalidGroup)

    def test_sums_with_gaps(self):
        club = [(0, "alone", 1), (0, "alone", 1), (1, "brought", 0), (1, "brought", 3)] + [(2, "brought", 0)] * 3
        self.assertEqual(answer_of(sets.second_sums, club, 0), [0, 3])
        self.assertEqual(answer_of(sets.second_range, club, 1), (0, 3))


class WrongInputsTest(unittest.TestCase):
    def test_invalid_club(self):
        for club in INVALID_CLUBS:
            with self.subTest(club=club):
                for call in WITHOUT_GROUP:
                    self.assertIs(kind_of(call, club, 0), errors.InvalidClub)
                    self.assertIs(kind_of(call, club, -1), errors.InvalidClub)
                for call in WITH_GROUP:
                    self.assertIs(kind_of(call, club, 0, []), errors.InvalidClub)
                    self.assertIs(kind_of(call, club, -1, None), errors.InvalidClub)
                self.assertIs(kind_of(sets.nth_set, club, -1, -1), errors.InvalidClub)

    def test_invalid_member(self):
        for wrong in NO_MEMBERS:
            with self.subTest(wrong=wrong):
                for call in WITHOUT_GROUP:
                    self.assertIs(kind_of(call, EXAMPLE, wrong), errors.InvalidMember)
                for call in WITH_GROUP:
                    self.assertIs(kind_of(call, EXAMPLE, wrong, [2, 3]), errors.InvalidMember)
                    self.assertIs(kind_of(call, EXAMPLE, wrong, None), errors.InvalidMember)
                self.assertIs(kind_of(sets.nth_set, EXAMPLE, wrong, -1), errors.InvalidMember)

    def test_invalid_group(self):
        for call in WITH_GROUP:
            for group in NO_GROUPS:
                with self.subTest(call=call.__name__, group=group):
                    self.assertIs(kind_of(call, EXAMPLE, 0, group), errors.InvalidGroup)

    def test_invalid_ones_ahead_of_impossible(self):
        for club, _ in NOT_POSSIBLE:
            for call in WITHOUT_GROUP:
                self.assertIs(kind_of(call, club, len(club)), errors.InvalidMember)
            for call in WITH_GROUP:
                self.assertIs(kind_of(call, club, -1, []), errors.InvalidMember)
                for group in NO_GROUPS:
                    self.assertIs(kind_of(call, club, 0, group), errors.InvalidGroup)
            self.assertIs(kind_of(sets.nth_set, club, -1, 0), errors.InvalidMember)

    def test_impossible_with_what_conflict_of_tells(self):
        for club, conflict in NOT_POSSIBLE:
            with self.subTest(club=club):
                for call in WITHOUT_GROUP:
                    self.assertEqual(conflict_in(call, club, 0), conflict)
                # No such set and no such index are looked at behind it.
                for group in ([], [0], [1], [0, 1, 2]):
                    self.assertEqual(conflict_in(sets.can_have_brought, club, 0, group), conflict)
                    self.assertEqual(conflict_in(sets.set_share, club, 0, group), conflict)
                    self.assertEqual(conflict_in(sets.set_index, club, 0, group), conflict)
                for index in (-1, 0, TOP):
                    self.assertEqual(conflict_in(sets.nth_set, club, 0, index), conflict)

    def test_form_of_set_paper_ahead_of_impossible(self):
        for club, _ in NOT_POSSIBLE:
            self.assertIs(kind_of(sets.set_paper, club, 0, [0]), errors.InvalidGroup)
            self.assertIs(kind_of(sets.set_paper, club, 1, [0, 1]), errors.InvalidGroup)
        for club, bringer, group in (
            (NOT_POSSIBLE[0][0], 0, []), (NOT_POSSIBLE[0][0], 1, [2]), (NOT_POSSIBLE[3][0], 0, [1]),
            (NOT_POSSIBLE[2][0], 2, []),
        ):
            conflict = clubs.conflict_of(club)
            self.assertEqual(conflict_in(sets.set_paper, club, bringer, group), conflict)

    def test_by_name(self):
        self.assertIs(sets.can_have_brought(group=[2, 5], bringer=0, club=EXAMPLE), True)
        self.assertEqual(sets.set_paper(group=[4, 5], bringer=0, club=EXAMPLE), 1)
        self.assertEqual(sets.count_sets(bringer=0, club=EXAMPLE), 5)
        self.assertEqual(sets.nth_set(index=4, bringer=0, club=EXAMPLE), [3, 5])
        self.assertEqual(sets.set_index(group=[3, 5], bringer=0, club=EXAMPLE), 4)
        self.assertEqual(sets.set_share(group=[2, 3], bringer=0, club=EXAMPLE), (1, 3))
        self.assertEqual(sets.second_sums(bringer=0, club=EXAMPLE), [0, 1])
        self.assertEqual(sets.second_range(bringer=0, club=EXAMPLE), (0, 1))


if __name__ == "__main__":
    unittest.main()
