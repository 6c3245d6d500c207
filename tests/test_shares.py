import random
import unittest
from fractions import Fraction
from math import gcd

from broughtin import clubs, errors, known, links, shares, ways
from trial import (
    EXAMPLE, INVALID_CLUBS, NO_MEMBERS, NOT_POSSIBLE, TOP, added, answer_of, conflict_in, fraction_of, kind_of,
    links_in, tried_clubs, wide_clubs,
)

ALONE = [(0, "alone", 0), (5, "alone", 0)]
# Each question of the file, with valid arguments behind the club, also for clubs that are not possible.
QUESTIONS = [
    (shares.share, (0, 1)), (shares.joint_share, ([],)), (shares.surest, (1,)), (shares.bringer_shares, (1,)),
]


class ExampleTest(unittest.TestCase):
    def test_shares(self):
        self.assertEqual(answer_of(shares.share, EXAMPLE, 0, 5), (1, 3))
        self.assertEqual(answer_of(shares.share, EXAMPLE, 0, 2), (2, 3))
        self.assertEqual(answer_of(shares.share, EXAMPLE, 1, 3), (1, 3))
        self.assertEqual(answer_of(shares.share, EXAMPLE, 2, 4), (1, 2))

    def test_no_share(self):
        for pair in ((0, 0), (0, 1), (2, 0), (2, 2), (2, 3), (5, 2), (3, 4), (4, 5), (5, 5)):
            self.assertEqual(answer_of(shares.share, EXAMPLE, *pair), (0, 1))

    def test_bringers(self):
        self.assertEqual(answer_of(shares.bringer_shares, EXAMPLE, 0), [])
        self.assertEqual(answer_of(shares.bringer_shares, EXAMPLE, 2), [(0, 2, 3), (1, 1, 3)])
        self.assertEqual(answer_of(shares.bringer_shares, EXAMPLE, 5), [(0, 1, 3), (1, 1, 6), (2, 1, 2)])
        self.assertEqual([answer_of(shares.surest, EXAMPLE, j) for j in range(6)], [None, None, 0, 0, 2, 2])

    def test_joint_shares(self):
        self.assertEqual(answer_of(shares.joint_share, EXAMPLE, []), (1, 1))
        self.assertEqual(answer_of(shares.joint_share, EXAMPLE, [(0, 2), (2, 5)]), (1, 3))
        self.assertEqual(answer_of(shares.joint_share, EXAMPLE, [(0, 4), (0, 5)]), (0, 1))
        self.assertEqual(answer_of(shares.joint_share, EXAMPLE, [(1, 2), (1, 3)]), (0, 1))


class AgainstAllWaysTest(unittest.TestCase):
    def test_shares(self):
        for club, found in tried_clubs():
            size = range(len(club))
            for j in size:
                told = {i: fraction_of(sum(way[j] == i for way in found), len(found)) for i in size}
                self.assertEqual({i: shares.share(club, i, j) for i in size}, told, (club, j))
                listed = [(i, part[0], part[1]) for i, part in told.items() if part != (0, 1)]
                self.assertEqual(shares.bringer_shares(club, j), listed, (club, j))
                often = [sum(way[j] == i for way in found) for i in size]
                best = often.index(max(often)) if max(often) else None
                self.assertEqual(shares.surest(club, j), best, (club, j))

    def test_joint_shares(self):
        chance = random.Random(12)
        for club, found in tried_clubs():
            for _ in range(8):
                one, two = links_in(chance.choice(found)), links_in(chance.choice(found))
                half = chance.randint(0, len(one))
                asked = one[:half] + two[half:]
                chance.shuffle(asked)
                having = [way for way in found if all(way[j] == i for i, j in asked)]
                told = fraction_of(len(having), len(found))
                self.assertEqual(shares.joint_share(club, asked), told, (club, asked))

    def test_share_as_told_in_r5(self):
        for club, _ in tried_clubs():
            for i in range(len(club)):
                for j in clubs.brought_in(club):
                    if club[i][0] < club[j][0]:
                        self.assertEqual(Fraction(*shares.share(club, i, j)), self.product_of(club, i, j), (club, i, j))

    def product_of(self, club, i, j):
        part = Fraction(club[i][2], clubs.free_at(club, club[j][0]))
        for day in {row[0] for row in club if row[1] == "brought" and club[i][0] < row[0] < club[j][0]}:
            part *= Fraction(clubs.slack_at(club, day), clubs.free_at(club, day))
        return part

    def test_agreement_with_links(self):
        for club, _ in tried_clubs():
            for j in range(len(club)):
                told = [row[0] for row in shares.bringer_shares(club, j)]
                self.assertEqual(told, links.bringers_of(club, j), club)
            for i, j in links.sure_links(club):
                self.assertEqual(shares.share(club, i, j), (1, 1), club)


class ChainsTest(unittest.TestCase):
    def test_links_of_a_chain_are_multiplied(self):
        for club, found in tried_clubs():
            for way in found:
                for member in range(len(club)):
                    chain, lower = [], member
                    while way[lower] is not None:
                        chain.append((way[lower], lower))
                        lower = way[lower]
                    product = Fraction(1)
                    for link in chain:
                        product *= Fraction(*shares.share(club, *link))
                    self.assertEqual(Fraction(*shares.joint_share(club, chain)), product, (club, chain))


class WideClubsTest(unittest.TestCase):
    def test_shares_of_a_guest_add_up(self):
        for club in wide_clubs():
            for member in range(len(club)):
                told = answer_of(shares.bringer_shares, club, member)
                if club[member][1] == "alone":
                    self.assertEqual(told, [])
                    continue
                self.assertEqual(added(row[1:] for row in told), 1)
                self.assertEqual([row[0] for row in told], links.bringers_of(club, member))
                self.assertTrue(all(gcd(top, bottom) == 1 for _, top, bottom in told))
                most = max(Fraction(top, bottom) for _, top, bottom in told)
                best = min(i for i, top, bottom in told if Fraction(top, bottom) == most)
                self.assertEqual(answer_of(shares.surest, club, member), best)

    def test_agreement_with_counts(self):
        for club in wide_clubs():
            count = ways.count_ways(club)
            for member in clubs.brought_in(club)[::3]:
                for i in range(0, member, 2):
                    if club[i][0] < club[member][0]:
                        told = fraction_of(known.count_with(club, [(i, member)]), count)
                        self.assertEqual(answer_of(shares.share, club, i, member), told)
                        self.assertEqual(answer_of(shares.joint_share, club, [(i, member)]), told)
                    else:
                        self.assertEqual(answer_of(shares.share, club, i, member), (0, 1))

    def test_shares_of_a_bringer_add_up_to_its_number(self):
        for club in wide_clubs():
            for i in range(0, len(club), 5):
                told = added(shares.share(club, i, j) for j in range(len(club)))
                self.assertEqual(told, club[i][2])

    def test_all_links_of_a_way(self):
        for club in wide_clubs():
            asked = links_in(ways.nth_way(club, 0))
            self.assertEqual(answer_of(shares.joint_share, club, asked), (1, ways.count_ways(club)))
            number = club[asked[0][0]][2]
            crowd = [j for j in clubs.brought_in(club) if club[j][0] > club[asked[0][0]][0]]
            if len(crowd) > number:
                asked = [(asked[0][0], j) for j in crowd[:number + 1]]
                self.assertEqual(answer_of(shares.joint_share, club, asked), (0, 1))


class EdgesTest(unittest.TestCase):
    def test_came_alone(self):
        for member in (0, 1):
            self.assertEqual(answer_of(shares.bringer_shares, ALONE, member), [])
            self.assertIsNone(answer_of(shares.surest, ALONE, member))
            self.assertEqual(answer_of(shares.share, ALONE, 0, member), (0, 1))
        self.assertEqual(answer_of(shares.joint_share, ALONE, []), (1, 1))

    def test_a_day_on_which_nobody_was_brought(self):
        club = [(0, "alone", 1), (1, "alone", 1), (2, "alone", 0), (3, "brought", 0), (4, "alone", 0)]
        club += [(TOP, "brought", 0)]
        for member in (3, 5):
            self.assertEqual(answer_of(shares.bringer_shares, club, member), [(0, 1, 2), (1, 1, 2)])
            self.assertEqual(answer_of(shares.surest, club, member), 0)

    def test_days_without_free_slots(self):
        club = [(0, "alone", 0), (1, "alone", 0), (2, "alone", 1), (3, "brought", 0), (4, "alone", 0)]
        self.assertEqual(answer_of(shares.bringer_shares, club, 3), [(2, 1, 1)])
        self.assertEqual(answer_of(shares.share, club, 0, 3), (0, 1))

    def test_least_of_several_surest(self):
        club = [(0, "alone", 1), (0, "alone", 2), (0, "alone", 2)] + [(9, "brought", 0)] * 5
        self.assertEqual(answer_of(shares.surest, club, 3), 1)
        self.assertEqual(answer_of(shares.bringer_shares, club, 7), [(0, 1, 5), (1, 2, 5), (2, 2, 5)])


class WrongInputsTest(unittest.TestCase):
    def test_invalid_club(self):
        for call, rest in QUESTIONS:
            for club in INVALID_CLUBS:
                with self.subTest(call=call.__name__, club=club):
                    self.assertIs(kind_of(call, club, *rest), errors.InvalidClub)
                    self.assertIs(kind_of(call, club, *[-1 for _ in rest]), errors.InvalidClub)

    def test_invalid_member(self):
        for wrong in NO_MEMBERS:
            with self.subTest(wrong=wrong):
                self.assertIs(kind_of(shares.share, EXAMPLE, wrong, 2), errors.InvalidMember)
                self.assertIs(kind_of(shares.share, EXAMPLE, 0, wrong), errors.InvalidMember)
                self.assertIs(kind_of(shares.surest, EXAMPLE, wrong), errors.InvalidMember)
                self.assertIs(kind_of(shares.bringer_shares, EXAMPLE, wrong), errors.InvalidMember)

    def test_invalid_links(self):
        for asked in (None, (), {}, [(0, 0)], [(2, 3)], [(0, 2), (1, 2)], [[0, 2]], [(False, 2)], [(0, 2)] * 61):
            self.assertIs(kind_of(shares.joint_share, EXAMPLE, asked), errors.InvalidLinks)

    def test_impossible_with_what_conflict_of_tells(self):
        for call, rest in QUESTIONS:
            for club, conflict in NOT_POSSIBLE:
                with self.subTest(call=call.__name__, club=club):
                    self.assertEqual(conflict_in(call, club, *rest), conflict)

    def test_invalid_ones_ahead_of_impossible(self):
        for club, _ in NOT_POSSIBLE:
            self.assertIs(kind_of(shares.share, club, -1, 0), errors.InvalidMember)
            self.assertIs(kind_of(shares.share, club, 0, 9), errors.InvalidMember)
            self.assertIs(kind_of(shares.surest, club, 9), errors.InvalidMember)
            self.assertIs(kind_of(shares.bringer_shares, club, -1), errors.InvalidMember)
            self.assertIs(kind_of(shares.joint_share, club, [(1, 1)]), errors.InvalidLinks)

    def test_by_name(self):
        self.assertEqual(shares.share(member=5, bringer=0, club=EXAMPLE), (1, 3))
        self.assertEqual(shares.joint_share(links=[(0, 5)], club=EXAMPLE), (1, 3))
        self.assertEqual(shares.surest(member=4, club=EXAMPLE), 2)
        self.assertEqual(shares.bringer_shares(member=3, club=EXAMPLE), [(0, 2, 3), (1, 1, 3)])


if __name__ == "__main__":
    unittest.main()
