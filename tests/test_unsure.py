import random
import unittest
from fractions import Fraction
from itertools import product

from broughtin import clubs, errors, unsure, ways
from trial import (
    EXAMPLE, EXAMPLE_WAYS, NO_MEMBERS, NOT_POSSIBLE, STRANGE, TOP, answer_of, conflict_in, day_lists, fraction_of,
    kind_of, random_club, sublists, tried_clubs, ways_by_trying, wide_clubs,
)

# The example, but of the members 1, 3 and 4 it is not told how they came.
DOUBTED = [(0, "alone", 2), (0, "unsure", 1), (1, "brought", 1), (1, "unsure", 0), (2, "unsure", 0), (3, "brought", 0)]

ABOUT_MEMBER = [unsure.can_be_brought, unsure.must_be_brought, unsure.came_share]
ABOUT_CLUB = [unsure.count_choices, unsure.count_all_ways]

NO_CLUBS = STRANGE + [
    [],
    tuple(DOUBTED),
    DOUBTED[0],
    [DOUBTED],
    [[0, "unsure", 0]],
    [(0, "unsure")],
    [(0, "unsure", 0, 0)],
    [(-1, "unsure", 0)],
    [(TOP + 1, "unsure", 0)],
    [(0, "unsure", -1)],
    [(0, "unsure", TOP + 1)],
    [(True, "unsure", 0)],
    [(0, "unsure", False)],
    [(0, "Unsure", 0)],
    [(0, "unsure ", 0)],
    [(0, "?", 0)],
    [(0, ["unsure"], 0)],
    [(0, None, 0)],
    [(0, ("alone", "brought"), 0)],
    [(1, "unsure", 0), (0, "unsure", 0)],
    DOUBTED + [(2, "unsure", 0)],
    [(0, "alone", 0)] + [(1, "unsure", 0)] * 13,
    [(0, "unsure", 0)] * 60,
    [(0, "alone", 0)] * 60 + [(0, "unsure", 0)],
    [errors.InvalidClub("no member")],
]


def told_of(club, choice):
    """The club in which the unsure members of a choice were brought, and no other ones."""
    told = []
    for i, (day, came, number) in enumerate(club):
        if came == "unsure":
            came = "brought" if i in choice else "alone"
        told.append((day, came, number))
    return told


def unsure_in(club):
    return [i for i, row in enumerate(club) if row[1] == "unsure"]


def choices_by_trying(club):
    """All choices, each with the ways that it has."""
    tried = [(choice, ways_by_trying(told_of(club, choice))) for choice in sublists(unsure_in(club))]
    return [(choice, found) for choice, found in tried if found]


def in_order(way):
    """What a list of bringers is compared by: None is less than every index."""
    return [-1 if bringer is None else bringer for bringer in way]


def small_unsure_clubs(size):
    """All clubs of so many members with days as in small clubs and numbers up to 2."""
    for days in day_lists(size):
        for cames in product(("alone", "brought", "unsure"), repeat=size):
            for numbers in product((0, 1, 2), repeat=size):
                yield list(zip(days, cames, numbers))


def doubted(chance, club, most):
    """A club in which it is no longer told of up to so many members how they came."""
    members = chance.sample(range(len(club)), min(len(club), chance.randint(1, most)))
    return [(day, "unsure" if i in members else came, number) for i, (day, came, number) in enumerate(club)]


def told_either_way(club, member):
    """The club with the member brought, and with it alone."""
    return [club[:member] + [(club[member][0], came, club[member][2])] + club[member + 1:]
            for came in ("brought", "alone")]


def count_or_zero(call, club):
    """What a count tells, 0 if there is no choice."""
    return 0 if unsure.choice_of(club) is None else call(club)


class IsUnsureClubTest(unittest.TestCase):
    def test_clubs(self):
        for club in (
            DOUBTED, EXAMPLE, [(0, "unsure", 0)], [(TOP, "unsure", TOP)], [(0, "brought", 5)],
            [(0, "unsure", 0)] * 12, [(0, "unsure", 0)] * 12 + [(0, "alone", 0)] * 48,
            [(0, "alone", 0)] * 48 + [(TOP, "unsure", TOP)] * 12,
        ):
            with self.subTest(club=club):
                self.assertIs(answer_of(unsure.is_unsure_club, club), True)

    def test_what_is_none(self):
        for thing in NO_CLUBS:
            with self.subTest(thing=thing):
                self.assertIs(answer_of(unsure.is_unsure_club, thing), False)

    def test_unsure_members_stand_in_no_other_club(self):
        self.assertIs(clubs.is_club(DOUBTED), False)
        self.assertIs(kind_of(clubs.conflict_of, DOUBTED), errors.InvalidClub)
        self.assertIs(kind_of(ways.count_ways, DOUBTED), errors.InvalidClub)


class ExampleTest(unittest.TestCase):
    def test_doubted(self):
        # The numbers are 4 and 2 were brought, so both unsure ones of day 1 and 2 were; nobody can bring member 1.
        self.assertEqual(answer_of(unsure.choice_of, DOUBTED), [3, 4])
        self.assertEqual(answer_of(unsure.count_choices, DOUBTED), 1)
        self.assertEqual([answer_of(unsure.can_be_brought, DOUBTED, i) for i in (1, 3, 4)], [False, True, True])
        self.assertEqual([answer_of(unsure.must_be_brought, DOUBTED, i) for i in (1, 3, 4)], [False, True, True])
        self.assertEqual(answer_of(unsure.count_all_ways, DOUBTED), 6)
        self.assertEqual([answer_of(unsure.nth_any_way, DOUBTED, index) for index in range(6)], EXAMPLE_WAYS)
        self.assertEqual([answer_of(unsure.came_share, DOUBTED, i) for i in (1, 3, 4)], [(0, 1), (1, 1), (1, 1)])

    def test_one_of_two(self):
        club = [(0, "alone", 1), (1, "unsure", 0), (2, "unsure", 0)]
        self.assertEqual(answer_of(unsure.choice_of, club), [2])
        self.assertEqual(answer_of(unsure.count_choices, club), 2)
        listed = [answer_of(unsure.nth_any_way, club, index) for index in range(2)]
        self.assertEqual(listed, [[None, None, 0], [None, 0, None]])
        self.assertEqual([answer_of(unsure.came_share, club, i) for i in (1, 2)], [(1, 2), (1, 2)])

    def test_shares_of_ways_and_not_of_choices(self):
        # Member 2 is brought in both ways of its choice, member 1 in the only one of its own.
        club = [(0, "alone", 1), (1, "unsure", 1), (1, "alone", 0), (2, "brought", 0), (3, "unsure", 0)]
        self.assertEqual(answer_of(unsure.count_choices, club), 2)
        self.assertEqual(answer_of(unsure.count_all_ways, club), 3)
        self.assertEqual(answer_of(unsure.came_share, club, 1), (1, 3))
        self.assertEqual(answer_of(unsure.came_share, club, 4), (2, 3))


class AgainstAllChoicesTest(unittest.TestCase):
    def hold(self, club):
        tried = choices_by_trying(club)
        members = unsure_in(club)
        if not tried:
            self.hold_none(club, members)
            return
        choices = [choice for choice, _ in tried]
        needed = len(choices[0])
        last = members[len(members) - needed:]
        self.assertIn(last, choices, club)
        self.assertEqual(unsure.choice_of(club), last, club)
        self.assertEqual(unsure.count_choices(club), len(choices), club)
        found = sorted([way for _, ways_of in tried for way in ways_of], key=in_order)
        self.assertEqual(unsure.count_all_ways(club), len(found), club)
        self.assertEqual([unsure.nth_any_way(club, index) for index in range(len(found))], found, club)
        for index in (-1, len(found)):
            self.assertIs(kind_of(unsure.nth_any_way, club, index), errors.InvalidIndex, club)
        for member in members:
            told = [member in choice for choice in choices]
            self.assertIs(unsure.can_be_brought(club, member), any(told), (club, member))
            self.assertIs(unsure.must_be_brought(club, member), all(told), (club, member))
            part = fraction_of(sum(way[member] is not None for way in found), len(found))
            self.assertEqual(unsure.came_share(club, member), part, (club, member))

    def hold_none(self, club, members):
        self.assertIsNone(unsure.choice_of(club), club)
        for call in ABOUT_CLUB:
            self.assertEqual(conflict_in(call, club), ("left", 0), club)
        self.assertEqual(conflict_in(unsure.nth_any_way, club, 0), ("left", 0), club)
        for member in members:
            for call in ABOUT_MEMBER:
                self.assertEqual(conflict_in(call, club, member), ("left", 0), club)

    def test_all_small_clubs(self):
        for size in (1, 2, 3):
            for club in small_unsure_clubs(size):
                self.hold(club)

    def test_clubs_with_up_to_four_unsure_members(self):
        chance = random.Random(101)
        for _ in range(500):
            club = doubted(chance, random_club(chance, chance.randint(4, 7)), 4)
            self.hold(club)
            spot = chance.randrange(len(club))
            day, came, number = club[spot]
            self.hold(club[:spot] + [(day, came, max(0, number + chance.choice((-1, 1, 2))))] + club[spot + 1:])

    def test_few_days(self):
        chance = random.Random(102)
        for _ in range(120):
            self.hold(doubted(chance, random_club(chance, chance.randint(6, 8), 3, 0.9), 4))

    def test_clubs_without_unsure_members(self):
        for club, found in tried_clubs():
            if len(club) != 4:
                self.assertEqual(unsure.choice_of(club), [])
                self.assertEqual(unsure.count_choices(club), 1)
                self.assertEqual(unsure.count_all_ways(club), len(found))
                listed = [unsure.nth_any_way(club, index) for index in range(len(found))]
                self.assertEqual(listed, [ways.nth_way(club, index) for index in range(len(found))])


class WideClubsTest(unittest.TestCase):
    def clubs(self):
        chance = random.Random(103)
        for club in wide_clubs():
            members = chance.sample(range(len(club)), 12)
            yield [(day, "unsure" if i in members else came, number) for i, (day, came, number) in enumerate(club)]

    def test_counts_add_up(self):
        for club in self.clubs():
            choices = answer_of(unsure.count_choices, club)
            count = answer_of(unsure.count_all_ways, club)
            self.assertGreater(count, 0)
            for member in unsure_in(club):
                brought, alone = told_either_way(club, member)
                parts = [count_or_zero(unsure.count_choices, told) for told in (brought, alone)]
                self.assertEqual(sum(parts), choices)
                self.assertIs(answer_of(unsure.can_be_brought, club, member), parts[0] > 0)
                self.assertIs(answer_of(unsure.must_be_brought, club, member), parts[1] == 0)
                parts = [count_or_zero(unsure.count_all_ways, told) for told in (brought, alone)]
                self.assertEqual(sum(parts), count)
                self.assertEqual(answer_of(unsure.came_share, club, member), fraction_of(parts[0], count))

    def test_shares_add_up_to_those_who_are_needed(self):
        for club in self.clubs():
            shares = [Fraction(*unsure.came_share(club, member)) for member in unsure_in(club)]
            self.assertEqual(sum(shares), len(unsure.choice_of(club)))

    def test_the_last_ones_are_a_choice(self):
        for club in self.clubs():
            choice = answer_of(unsure.choice_of, club)
            self.assertEqual(choice, unsure_in(club)[12 - len(choice):])
            self.assertIsNone(clubs.conflict_of(told_of(club, choice)))

    def test_indices(self):
        chance = random.Random(104)
        for club in self.clubs():
            count = unsure.count_all_ways(club)
            indices = sorted({0, 1, count - 2, count - 1} | {chance.randrange(count) for _ in range(12)})
            listed = [answer_of(unsure.nth_any_way, club, index) for index in indices]
            keys = [in_order(way) for way in listed]
            self.assertEqual(keys, sorted(keys))
            self.assertEqual(len({str(key) for key in keys}), len(indices))
            for way in listed:
                choice = [member for member in unsure_in(club) if way[member] is not None]
                self.assertIs(ways.is_way(told_of(club, choice), way), True)
            for index in (-1, count, count + 1, -count):
                self.assertIs(kind_of(unsure.nth_any_way, club, index), errors.InvalidIndex)

    def test_first_and_last_way(self):
        for club in self.clubs():
            count = unsure.count_all_ways(club)
            first, last = unsure.nth_any_way(club, 0), unsure.nth_any_way(club, count - 1)
            # The first way brings as late as it can: it is one of the choice of the last members.
            choice = unsure.choice_of(club)
            self.assertEqual(first, ways.nth_way(told_of(club, choice), 0))
            brought = [member for member in unsure_in(club) if last[member] is not None]
            told = told_of(club, brought)
            self.assertEqual(last, ways.nth_way(told, ways.count_ways(told) - 1))

    def test_steps_between_neighbours(self):
        club = next(self.clubs())
        count = unsure.count_all_ways(club)
        start = count // 3
        keys = [in_order(unsure.nth_any_way(club, index)) for index in range(start, min(count, start + 40))]
        self.assertTrue(all(one < two for one, two in zip(keys, keys[1:])))


class EdgesTest(unittest.TestCase):
    def test_twelve_and_thirteen(self):
        club = [(0, "alone", 6)] + [(TOP, "unsure", 0)] * 12
        self.assertEqual(answer_of(unsure.choice_of, club), [7, 8, 9, 10, 11, 12])
        self.assertEqual(answer_of(unsure.count_choices, club), 924)
        self.assertEqual(answer_of(unsure.count_all_ways, club), 924)
        self.assertEqual(answer_of(unsure.came_share, club, 12), (1, 2))
        self.assertEqual(answer_of(unsure.nth_any_way, club, 0), [None] * 7 + [0] * 6)
        self.assertEqual(answer_of(unsure.nth_any_way, club, 923), [None] + [0] * 6 + [None] * 6)
        more = club + [(TOP, "unsure", 0)]
        for call in [unsure.choice_of] + ABOUT_CLUB:
            self.assertIs(kind_of(call, more), errors.InvalidClub)
        for call in ABOUT_MEMBER + [unsure.nth_any_way]:
            self.assertIs(kind_of(call, more, 1), errors.InvalidClub)

    def test_great_numbers(self):
        for club in (
            [(0, "alone", TOP), (TOP, "unsure", TOP)],
            [(0, "unsure", TOP), (1, "brought", 0), (2, "unsure", 0)],
            [(0, "alone", 0), (TOP, "brought", TOP), (TOP, "unsure", 0)],
        ):
            self.assertIsNone(answer_of(unsure.choice_of, club))
            self.assertEqual(conflict_in(unsure.count_choices, club), ("left", 0))
            self.assertEqual(conflict_in(unsure.count_all_ways, club), ("left", 0))
            self.assertEqual(conflict_in(unsure.nth_any_way, club, TOP), ("left", 0))
        late = [(TOP - 1, "alone", 1), (TOP - 1, "unsure", 0), (TOP, "unsure", 0)]
        self.assertEqual(answer_of(unsure.choice_of, late), [2])
        self.assertEqual(answer_of(unsure.came_share, late, 1), (0, 1))
        self.assertEqual(answer_of(unsure.came_share, late, 2), (1, 1))

    def test_first_day(self):
        self.assertEqual(answer_of(unsure.choice_of, [(0, "unsure", 0)] * 12), [])
        self.assertEqual(answer_of(unsure.nth_any_way, [(3, "unsure", 0)], 0), [None])
        self.assertIs(answer_of(unsure.can_be_brought, [(3, "unsure", 0)], 0), False)
        self.assertIsNone(answer_of(unsure.choice_of, [(3, "unsure", 1), (3, "unsure", 0)]))

    def test_too_many_and_too_few(self):
        for club in (
            [(0, "alone", 3), (1, "unsure", 0), (1, "unsure", 0)],
            [(0, "alone", 1), (1, "brought", 0), (1, "brought", 0), (2, "unsure", 0)],
            [(0, "alone", 0), (1, "unsure", 1), (1, "brought", 0)],
        ):
            self.assertIsNone(answer_of(unsure.choice_of, club))

    def test_a_list_that_is_changed_later(self):
        club = list(DOUBTED)
        choice, way = unsure.choice_of(club), unsure.nth_any_way(club, 0)
        club.clear()
        self.assertEqual((choice, way), ([3, 4], EXAMPLE_WAYS[0]))


class WrongInputsTest(unittest.TestCase):
    def test_invalid_club(self):
        for club in NO_CLUBS:
            with self.subTest(club=club):
                for call in [unsure.choice_of] + ABOUT_CLUB:
                    self.assertIs(kind_of(call, club), errors.InvalidClub)
                for call in ABOUT_MEMBER + [unsure.nth_any_way]:
                    self.assertIs(kind_of(call, club, 0), errors.InvalidClub)
                    self.assertIs(kind_of(call, club, -1), errors.InvalidClub)

    def test_invalid_member(self):
        for call in ABOUT_MEMBER:
            for member in NO_MEMBERS:
                self.assertIs(kind_of(call, DOUBTED, member), errors.InvalidMember)
            for member in (0, 2, 5):
                self.assertIs(kind_of(call, DOUBTED, member), errors.InvalidMember)
            for member in range(6):
                self.assertIs(kind_of(call, EXAMPLE, member), errors.InvalidMember)

    def test_invalid_member_ahead_of_impossible(self):
        club = [(0, "alone", 9), (1, "unsure", 0)]
        for call in ABOUT_MEMBER:
            for member in (-1, 0, 2, TOP, True):
                self.assertIs(kind_of(call, club, member), errors.InvalidMember)
            self.assertEqual(conflict_in(call, club, 1), ("left", 0))
            for told, _ in NOT_POSSIBLE:
                self.assertIs(kind_of(call, told, 0), errors.InvalidMember)

    def test_impossible_ahead_of_invalid_index(self):
        club = [(0, "alone", 9), (1, "unsure", 0)]
        for index in (-1, 0, 1, TOP, True):
            self.assertEqual(conflict_in(unsure.nth_any_way, club, index), ("left", 0))

    def test_clubs_without_unsure_members_that_are_not_possible(self):
        # Not what conflict_of tells, but always the same.
        for club, _ in NOT_POSSIBLE:
            self.assertIsNone(answer_of(unsure.choice_of, club))
            for call in ABOUT_CLUB:
                self.assertEqual(conflict_in(call, club), ("left", 0))
            self.assertEqual(conflict_in(unsure.nth_any_way, club, 0), ("left", 0))

    def test_invalid_index(self):
        for index in (-1, -6, 6, 7, TOP, -TOP, True, False):
            self.assertIs(kind_of(unsure.nth_any_way, DOUBTED, index), errors.InvalidIndex)

    def test_by_name(self):
        self.assertIs(unsure.is_unsure_club(thing=DOUBTED), True)
        self.assertEqual(unsure.choice_of(club=DOUBTED), [3, 4])
        self.assertIs(unsure.can_be_brought(member=1, club=DOUBTED), False)
        self.assertIs(unsure.must_be_brought(member=3, club=DOUBTED), True)
        self.assertEqual(unsure.count_choices(club=DOUBTED), 1)
        self.assertEqual(unsure.count_all_ways(club=DOUBTED), 6)
        self.assertEqual(unsure.nth_any_way(index=5, club=DOUBTED), EXAMPLE_WAYS[5])
        self.assertEqual(unsure.came_share(member=4, club=DOUBTED), (1, 1))


if __name__ == "__main__":
    unittest.main()
