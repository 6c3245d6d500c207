import random
import unittest

from broughtin import clubs, errors, groups, shares, ways
from trial import (
    EXAMPLE, INVALID_CLUBS, NO_GROUPS, NOT_POSSIBLE, TOP, added, answer_of, conflict_in, fraction_of, kind_of,
    sublists, tried_clubs, wide_clubs,
)

ALONE = [(0, "alone", 0), (5, "alone", 0)]
QUESTIONS = [(groups.group_range, ()), (groups.group_way, (0,)), (groups.group_mean, ())]
# Three of the five brought members have nobody but 0 and 1 to bring them.
ROOMY = [
    (0, "alone", 2), (0, "alone", 2), (1, "brought", 1), (1, "alone", 1), (2, "brought", 0), (2, "brought", 0),
    (3, "brought", 0), (3, "brought", 0), (4, "brought", 0),
]


def counted(way, bringers, members):
    """How many of the members one of the bringers brought in a way."""
    return sum(way[member] in bringers for member in members)


class ExampleTest(unittest.TestCase):
    def test_of_all(self):
        self.assertEqual(answer_of(groups.group_range, EXAMPLE, [0, 1, 2], [2, 3, 4, 5]), (4, 4))
        self.assertEqual(answer_of(groups.group_range, EXAMPLE, [0], [2, 3, 4, 5]), (2, 2))
        self.assertEqual(answer_of(groups.group_range, EXAMPLE, [0], [2, 3]), (1, 2))
        self.assertEqual(answer_of(groups.group_range, EXAMPLE, [0, 2], [4, 5]), (1, 2))
        self.assertEqual(answer_of(groups.group_mean, EXAMPLE, [0, 2], [4, 5]), (5, 3))
        self.assertEqual(answer_of(groups.group_mean, EXAMPLE, [0], [5]), (1, 3))

    def test_ways(self):
        for number in (1, 2):
            way = answer_of(groups.group_way, EXAMPLE, [0, 2], [4, 5], number)
            self.assertIs(ways.is_way(EXAMPLE, way), True)
            self.assertEqual(counted(way, [0, 2], [4, 5]), number)


class AgainstAllWaysTest(unittest.TestCase):
    def test_all_groups_of_small_clubs(self):
        for club, found in tried_clubs():
            if len(club) <= 4:
                for bringers in sublists(range(len(club))):
                    for members in sublists(clubs.brought_in(club)):
                        self.hold(club, found, bringers, members)

    def test_some_groups_of_larger_clubs(self):
        chance = random.Random(15)
        for club, found in tried_clubs():
            brought = clubs.brought_in(club)
            if len(club) > 4:
                for _ in range(15):
                    bringers = sorted(chance.sample(range(len(club)), chance.randint(0, len(club))))
                    members = sorted(chance.sample(brought, chance.randint(0, len(brought))))
                    self.hold(club, found, bringers, members)

    def hold(self, club, found, bringers, members):
        case = (club, bringers, members)
        counts = [counted(way, bringers, members) for way in found]
        ends = groups.group_range(club, bringers, members)
        self.assertEqual(ends, (min(counts), max(counts)), case)
        self.assertEqual(sorted(set(counts)), list(range(ends[0], ends[1] + 1)), case)
        self.assertEqual(groups.group_mean(club, bringers, members), fraction_of(sum(counts), len(found)), case)
        for number in range(ends[0], ends[1] + 1):
            way = groups.group_way(club, bringers, members, number)
            self.assertIs(ways.is_way(club, way), True, case)
            self.assertEqual(counted(way, bringers, members), number, case)
        for number in (ends[0] - 1, ends[1] + 1):
            self.assertIs(kind_of(groups.group_way, club, bringers, members, number), errors.InvalidNumber, case)


class WideClubsTest(unittest.TestCase):
    def test_all_numbers_of_the_range(self):
        chance = random.Random(16)
        for club in wide_clubs():
            brought = clubs.brought_in(club)
            for _ in range(3):
                bringers = sorted(chance.sample(range(len(club)), len(club) // 2))
                members = sorted(chance.sample(brought, len(brought) // 2))
                ends = answer_of(groups.group_range, club, bringers, members)
                for number in range(ends[0], ends[1] + 1):
                    way = answer_of(groups.group_way, club, bringers, members, number)
                    self.assertIs(ways.is_way(club, way), True)
                    self.assertEqual(counted(way, bringers, members), number)
                for number in (ends[0] - 1, ends[1] + 1, -1, 61, TOP, -TOP):
                    kind = kind_of(groups.group_way, club, bringers, members, number)
                    self.assertIs(kind, errors.InvalidNumber)
                for index in (0, ways.count_ways(club) // 3, ways.count_ways(club) - 1):
                    number = counted(ways.nth_way(club, index), bringers, members)
                    self.assertTrue(ends[0] <= number <= ends[1])

    def test_mean_is_a_sum_of_shares(self):
        for club in wide_clubs():
            bringers, members = list(range(0, len(club), 3)), clubs.brought_in(club)[::4]
            told = added(shares.share(club, i, j) for i in bringers for j in members)
            self.assertEqual(answer_of(groups.group_mean, club, bringers, members), fraction_of(told, 1))

    def test_both_sides_make_all(self):
        for club in wide_clubs():
            everybody, members = list(range(len(club))), clubs.brought_in(club)[::2]
            some = everybody[::3]
            rest = [i for i in everybody if i not in some]
            least, greatest = groups.group_range(club, some, members)
            count = len(members)
            self.assertEqual(answer_of(groups.group_range, club, rest, members), (count - greatest, count - least))
            both = [groups.group_mean(club, some, members), groups.group_mean(club, rest, members)]
            self.assertEqual(added(both), count)


class EdgesTest(unittest.TestCase):
    def test_empty_groups(self):
        for bringers, members in (([], [2, 3, 4, 5]), ([0, 1, 2], []), ([], [])):
            self.assertEqual(answer_of(groups.group_range, EXAMPLE, bringers, members), (0, 0))
            self.assertEqual(answer_of(groups.group_mean, EXAMPLE, bringers, members), (0, 1))
            self.assertIs(ways.is_way(EXAMPLE, answer_of(groups.group_way, EXAMPLE, bringers, members, 0)), True)
            for number in (-1, 1):
                kind = kind_of(groups.group_way, EXAMPLE, bringers, members, number)
                self.assertIs(kind, errors.InvalidNumber)

    def test_groups_of_all(self):
        for club in (EXAMPLE, ROOMY):
            brought = clubs.brought_in(club)
            everybody = list(range(len(club)))
            self.assertEqual(answer_of(groups.group_range, club, everybody, brought), (len(brought),) * 2)
            self.assertEqual(answer_of(groups.group_mean, club, everybody, brought), (len(brought), 1))
            way = answer_of(groups.group_way, club, everybody, brought, len(brought))
            self.assertIs(ways.is_way(club, way), True)

    def test_somebody_in_both_groups(self):
        self.assertEqual(answer_of(groups.group_range, EXAMPLE, [2], [2, 4]), (0, 1))
        self.assertEqual(answer_of(groups.group_range, EXAMPLE, [2, 3, 4, 5], [2, 3, 4, 5]), (1, 1))
        self.assertEqual(answer_of(groups.group_mean, EXAMPLE, [2, 4], [2, 4]), (1, 2))
        self.assertEqual(answer_of(groups.group_range, EXAMPLE, [2], [2]), (0, 0))

    def test_members_of_number_zero(self):
        self.assertEqual(answer_of(groups.group_range, EXAMPLE, [3, 4, 5], [4, 5]), (0, 0))
        self.assertEqual(answer_of(groups.group_mean, EXAMPLE, [3, 4, 5], [4, 5]), (0, 1))

    def test_nobody_brought(self):
        self.assertEqual(answer_of(groups.group_range, ALONE, [0, 1], []), (0, 0))
        self.assertEqual(answer_of(groups.group_way, ALONE, [0], [], 0), [None, None])
        self.assertEqual(answer_of(groups.group_mean, ALONE, [], []), (0, 1))
        self.assertIs(kind_of(groups.group_range, ALONE, [0], [1]), errors.InvalidGroup)

    def test_the_number_at_both_ends_and_outside(self):
        least, greatest = answer_of(groups.group_range, ROOMY, [0, 3], [4, 5, 6, 7, 8])
        self.assertEqual((least, greatest), (2, 3))
        for number in (-TOP, -1, 0, least - 1, greatest + 1, 5, 6, TOP):
            kind = kind_of(groups.group_way, ROOMY, [0, 3], [4, 5, 6, 7, 8], number)
            self.assertIs(kind, errors.InvalidNumber)
        for number in (least, greatest):
            way = answer_of(groups.group_way, ROOMY, [0, 3], [4, 5, 6, 7, 8], number)
            self.assertIs(ways.is_way(ROOMY, way), True)
            self.assertEqual(counted(way, [0, 3], [4, 5, 6, 7, 8]), number)


class WrongInputsTest(unittest.TestCase):
    def test_invalid_club(self):
        for call, rest in QUESTIONS:
            for club in INVALID_CLUBS:
                with self.subTest(call=call.__name__, club=club):
                    self.assertIs(kind_of(call, club, [], [], *rest), errors.InvalidClub)
                    self.assertIs(kind_of(call, club, None, None, *rest), errors.InvalidClub)

    def test_invalid_groups(self):
        for call, rest in QUESTIONS:
            for group in NO_GROUPS:
                with self.subTest(call=call.__name__, group=group):
                    self.assertIs(kind_of(call, EXAMPLE, group, [2, 3], *rest), errors.InvalidGroup)
                    self.assertIs(kind_of(call, EXAMPLE, [0, 1], group, *rest), errors.InvalidGroup)

    def test_members_who_came_alone(self):
        for call, rest in QUESTIONS:
            for members in ([0], [1], [0, 2], [1, 2, 3], [0, 1, 2, 3, 4, 5]):
                self.assertIs(kind_of(call, EXAMPLE, [0], members, *rest), errors.InvalidGroup)

    def test_invalid_group_ahead_of_impossible(self):
        for call, rest in QUESTIONS:
            for club, _ in NOT_POSSIBLE:
                for group in NO_GROUPS:
                    self.assertIs(kind_of(call, club, group, [], *rest), errors.InvalidGroup)
                    self.assertIs(kind_of(call, club, [], group, *rest), errors.InvalidGroup)
                self.assertIs(kind_of(call, club, [], [0], *rest), errors.InvalidGroup)

    def test_impossible_with_what_conflict_of_tells(self):
        for call, rest in QUESTIONS:
            for club, conflict in NOT_POSSIBLE:
                with self.subTest(call=call.__name__, club=club):
                    self.assertEqual(conflict_in(call, club, [], [], *rest), conflict)
                    self.assertEqual(conflict_in(call, club, [0, 1], clubs.brought_in(club), *rest), conflict)

    def test_impossible_ahead_of_number(self):
        for club, conflict in NOT_POSSIBLE:
            for number in (-1, 7, TOP):
                self.assertEqual(conflict_in(groups.group_way, club, [0], [], number), conflict)

    def test_by_name(self):
        self.assertEqual(groups.group_range(members=[2, 3], bringers=[0], club=EXAMPLE), (1, 2))
        way = groups.group_way(number=2, members=[2, 3], bringers=[0], club=EXAMPLE)
        self.assertEqual(way[:4], [None, None, 0, 0])
        self.assertEqual(groups.group_mean(members=[2, 3], bringers=[0], club=EXAMPLE), (4, 3))


if __name__ == "__main__":
    unittest.main()
