import random
import unittest

from broughtin import clubs, errors, slips
from trial import (
    EXAMPLE, INVALID_CLUBS, NO_MEMBERS, NOT_POSSIBLE, TOP, answer_of, kind_of, random_club, small_clubs,
    ways_by_trying, wide_clubs,
)

ABOUT_CLUB = [slips.one_number, slips.two_numbers, slips.one_came]
# One number too many, so that a lower number, or one more who was brought, puts it right.
LOOSE = [(0, "alone", 2), (1, "alone", 1), (2, "brought", 0), (2, "alone", 0), (3, "brought", 0)]
# As many numbers as brought members, but they count too late.
LATE = [(0, "alone", 0), (4, "brought", 0), (9, "alone", 1)]


def with_row(club, member, row):
    """The club with another row for a member, behind all others with its day."""
    rows = club[:member] + club[member + 1:]
    spot = sum(other[0] <= row[0] for other in rows)
    return rows[:spot] + [row] + rows[spot:]


def with_number(club, member, number):
    return with_row(club, member, (club[member][0], club[member][1], number))


def with_day(club, member, day):
    return with_row(club, member, (day, club[member][1], club[member][2]))


def otherwise(club, member):
    day, came, number = club[member]
    return with_row(club, member, (day, {"alone": "brought", "brought": "alone"}[came], number))


def can_be(club):
    """Whether the club is possible, by numbers alone."""
    if sum(row[2] for row in club) != sum(row[1] == "brought" for row in club):
        return False
    return all(
        sum(row[2] for row in club if row[0] < day) >= sum(row[1] == "brought" for row in club if row[0] <= day)
        for day, _, _ in club
    )


def by_trying(club):
    """Whether the club is possible, by all of its ways."""
    return ways_by_trying(club) != []


def moved(club, raised, lowered, many):
    """The club with so many put from one member's number to another's."""
    rows = list(club)
    rows[raised] = (*club[raised][:2], club[raised][2] + many)
    rows[lowered] = (*club[lowered][:2], club[lowered][2] - many)
    return rows


def days_to_try(club):
    """Days at, beside and between those of the club, the first and the last one that can be."""
    days = sorted({row[0] for row in club})
    between = [(one + two) // 2 for one, two in zip([0] + days, days + [TOP])]
    near = [day + step for day in days for step in (-1, 0, 1)]
    return [day for day in sorted(set(between + near + [0, 1, TOP - 1, TOP])) if 0 <= day <= TOP]


def in_stretches(stretches, day):
    return any(first <= day <= last for first, last in stretches)


class ExampleTest(unittest.TestCase):
    def test_possible_as_it_is(self):
        self.assertEqual(answer_of(slips.one_number, EXAMPLE), [(i, row[2]) for i, row in enumerate(EXAMPLE)])
        told = [(0, 1, 1, 1), (0, 2, 1, 1), (1, 0, 1, 2), (1, 2, 1, 1), (2, 0, 1, 1), (2, 1, 1, 1)]
        told += [(3, 0, 1, 1), (3, 1, 1, 1), (3, 2, 1, 1), (4, 0, 1, 1), (4, 1, 1, 1), (4, 2, 1, 1)]
        self.assertEqual(answer_of(slips.two_numbers, EXAMPLE), told)
        self.assertEqual(answer_of(slips.one_came, EXAMPLE), [])
        # Not on day 0, and on no other day is anybody short of a slot.
        self.assertEqual(answer_of(slips.one_day, EXAMPLE, 5), [(1, TOP)])
        self.assertEqual(answer_of(slips.one_day, EXAMPLE, 2), [(1, 2)])
        self.assertEqual(answer_of(slips.one_day, EXAMPLE, 0), [(0, 0)])
        self.assertEqual(answer_of(slips.one_day, EXAMPLE, 1), [(0, 2)])

    def test_one_too_many(self):
        self.assertEqual(answer_of(slips.one_number, LOOSE), [(0, 1), (1, 0)])
        self.assertEqual(answer_of(slips.two_numbers, LOOSE), [])
        self.assertEqual(answer_of(slips.one_came, LOOSE), [1, 3])
        for member in range(5):
            self.assertEqual(answer_of(slips.one_day, LOOSE, member), [])

    def test_too_late(self):
        self.assertEqual(answer_of(slips.one_number, LATE), [])
        self.assertEqual(answer_of(slips.two_numbers, LATE), [(0, 2, 1, 1)])
        self.assertEqual(answer_of(slips.one_came, LATE), [])
        self.assertEqual(answer_of(slips.one_day, LATE, 0), [])
        self.assertEqual(answer_of(slips.one_day, LATE, 1), [(10, TOP)])
        self.assertEqual(answer_of(slips.one_day, LATE, 2), [(0, 3)])

    def test_nothing_puts_it_right(self):
        club = [(0, "alone", 0), (1, "brought", 0), (2, "brought", 7), (2, "brought", 9)]
        for call in ABOUT_CLUB:
            self.assertEqual(answer_of(call, club), [])
        for member in range(4):
            self.assertEqual(answer_of(slips.one_day, club, member), [])


class AgainstAllValuesTest(unittest.TestCase):
    def clubs(self):
        for size in (1, 2, 3):
            yield from small_clubs(size)
        chance = random.Random(111)
        for _ in range(400):
            club = random_club(chance, chance.randint(4, 7), chance.choice((3, 4, 6)))
            yield club
            spot = chance.randrange(len(club))
            yield with_number(club, spot, max(0, club[spot][2] + chance.choice((-1, 1, 2))))
            yield otherwise(club, spot)
            yield with_day(club, spot, chance.randrange(20))

    def test_one_number(self):
        for club in self.clubs():
            told = []
            for member, row in enumerate(club):
                values = sorted(set(range(len(club) + 2)) | {row[2], row[2] + 1})
                told += [(member, value) for value in values if by_trying(with_number(club, member, value))]
            self.assertEqual(slips.one_number(club), told, club)
            if by_trying(club):
                self.assertEqual(told, [(i, row[2]) for i, row in enumerate(club)])

    def test_two_numbers(self):
        for club in self.clubs():
            told = []
            for raised in range(len(club)):
                for lowered in range(len(club)):
                    if raised != lowered:
                        tried = range(1, club[lowered][2] + 1)
                        fit = [many for many in tried if by_trying(moved(club, raised, lowered, many))]
                        if fit:
                            self.assertEqual(fit, list(range(fit[0], fit[-1] + 1)), (club, raised, lowered))
                            told.append((raised, lowered, fit[0], fit[-1]))
            self.assertEqual(slips.two_numbers(club), told, club)

    def test_one_came(self):
        for club in self.clubs():
            told = [member for member in range(len(club)) if by_trying(otherwise(club, member))]
            self.assertEqual(slips.one_came(club), told, club)

    def test_one_day(self):
        for club in self.clubs():
            for member, row in enumerate(club):
                stretches = slips.one_day(club, member)
                self.hold_form(stretches)
                for day in days_to_try(club):
                    told = by_trying(with_day(club, member, day))
                    self.assertEqual(in_stretches(stretches, day), told, (club, member, day))
                self.assertEqual(in_stretches(stretches, row[0]), by_trying(club), (club, member))

    def hold_form(self, stretches):
        for first, last in stretches:
            self.assertTrue(0 <= first <= last <= TOP, stretches)
        for (_, last), (first, _) in zip(stretches, stretches[1:]):
            # With no day between two of them they would be one.
            self.assertGreater(first, last + 1, stretches)

    def test_place_among_members_of_the_same_day(self):
        chance = random.Random(112)
        for _ in range(200):
            club = random_club(chance, 6, 3)
            member = chance.randrange(6)
            spot = chance.randrange(6)
            club[spot] = (*club[spot][:2], club[spot][2] + chance.choice((0, 0, 1)))
            keys = sorted(range(6), key=lambda i: (club[i][0], chance.random()))
            mixed = [club[i] for i in keys]
            self.assertEqual(slips.one_day(mixed, keys.index(member)), slips.one_day(club, member))
            self.assertEqual(slips.one_came(mixed), sorted(keys.index(i) for i in slips.one_came(club)))


class DaysTest(unittest.TestCase):
    def test_alone_among_themselves(self):
        self.assertEqual(answer_of(slips.one_day, [(7, "alone", 0)], 0), [(0, TOP)])
        self.assertEqual(answer_of(slips.one_day, [(7, "alone", 1)], 0), [])
        self.assertEqual(answer_of(slips.one_day, [(7, "brought", 1)], 0), [])
        self.assertEqual(answer_of(slips.one_day, [(0, "alone", 0), (TOP, "alone", 0)], 1), [(0, TOP)])

    def test_ends_of_all_days(self):
        club = [(0, "alone", 1), (TOP, "brought", 0)]
        self.assertEqual(answer_of(slips.one_day, club, 0), [(0, TOP - 1)])
        self.assertEqual(answer_of(slips.one_day, club, 1), [(1, TOP)])
        late = [(TOP, "alone", 1), (TOP, "brought", 0)]
        self.assertEqual(answer_of(slips.one_day, late, 0), [(0, TOP - 1)])
        self.assertEqual(answer_of(slips.one_day, late, 1), [])
        first = [(0, "alone", 1), (0, "brought", 0)]
        self.assertEqual(answer_of(slips.one_day, first, 0), [])
        self.assertEqual(answer_of(slips.one_day, first, 1), [(1, TOP)])
        near = [(TOP - 1, "alone", 1), (TOP - 1, "brought", 0)]
        self.assertEqual(answer_of(slips.one_day, near, 1), [(TOP, TOP)])
        self.assertEqual(answer_of(slips.one_day, near, 0), [(0, TOP - 2)])

    def test_two_stretches(self):
        # Member 2 cannot join ahead of its bringers nor on the day on which all slots are needed.
        club = [(0, "alone", 1), (5, "brought", 1), (7, "brought", 1), (9, "brought", 0)]
        self.assertEqual(answer_of(slips.one_day, club, 2), [(1, 4), (6, 8)])
        self.assertEqual(answer_of(slips.one_day, club, 1), [(1, 6), (8, 8)])

    def test_the_member_goes_past_others(self):
        club = [(0, "alone", 1), (3, "brought", 0), (3, "alone", 1), (8, "brought", 0)]
        self.assertEqual(answer_of(slips.one_day, club, 2), [(0, 7)])
        self.assertEqual(answer_of(slips.one_day, club, 0), [(0, 2)])
        self.assertEqual(answer_of(slips.one_day, club, 1), [(1, TOP)])
        self.assertEqual(answer_of(slips.one_day, club, 3), [(4, TOP)])


class GreatNumbersTest(unittest.TestCase):
    def test_one_number(self):
        club = [(0, "alone", TOP), (1, "brought", 0), (TOP, "brought", 0)]
        self.assertEqual(answer_of(slips.one_number, club), [(0, 2)])
        self.assertEqual(answer_of(slips.one_number, club + [(TOP, "alone", TOP)]), [])
        self.assertEqual(answer_of(slips.one_number, [(TOP, "alone", TOP)]), [(0, 0)])

    def test_two_numbers(self):
        club = [(0, "alone", 0), (1, "alone", 30)] + [(TOP, "brought", 0)] * 30
        told = answer_of(slips.two_numbers, club)
        self.assertEqual(told, [(0, 1, 1, 30)])
        equal = [(0, "alone", TOP), (1, "alone", TOP)]
        self.assertEqual(answer_of(slips.two_numbers, equal), [])
        short = [(0, "alone", 0), (1, "brought", 0), (1, "brought", 0), (2, "alone", 5)] + [(TOP, "brought", 0)] * 3
        self.assertEqual(answer_of(slips.two_numbers, short), [(0, 3, 2, 5)])

    def test_others(self):
        club = [(0, "alone", TOP), (1, "brought", TOP)]
        self.assertEqual(answer_of(slips.one_came, club), [])
        self.assertEqual(answer_of(slips.one_day, club, 0), [])


class WideClubsTest(unittest.TestCase):
    def changed(self):
        """Possible clubs, each with a club in which one entry is told otherwise."""
        chance = random.Random(113)
        for club in wide_clubs():
            for _ in range(3):
                member = chance.randrange(len(club))
                number = chance.choice((club[member][2] + 1, max(0, club[member][2] - 1), TOP))
                yield club, with_number(club, member, number), member

    def test_the_right_number_is_told(self):
        for club, wrong, member in self.changed():
            told = answer_of(slips.one_number, wrong)
            # The changed one stands behind the others of its day, as all are compared by their entries.
            spots = [i for i, row in enumerate(wrong) if row[:2] == club[member][:2]]
            self.assertTrue(any((spot, club[member][2]) in told for spot in spots))
            for spot, value in told:
                self.assertTrue(can_be(with_number(wrong, spot, value)))
            self.assertEqual(told, sorted(told))
            left = sum(row[2] for row in wrong) - sum(row[1] == "brought" for row in wrong)
            fit = [(i, row[2] - left) for i, row in enumerate(wrong) if row[2] >= left]
            self.assertEqual(told, [(i, value) for i, value in fit if can_be(with_number(wrong, i, value))])

    def test_clubs_as_they_are(self):
        for club in wide_clubs():
            self.assertEqual(slips.one_number(club), [(i, row[2]) for i, row in enumerate(club)])
            self.assertEqual(slips.one_came(club), [])
            for member in range(0, len(club), 5):
                stretches = answer_of(slips.one_day, club, member)
                self.assertTrue(in_stretches(stretches, club[member][0]))
                for day in days_to_try(club):
                    self.assertEqual(in_stretches(stretches, day), can_be(with_day(club, member, day)))

    def test_one_came(self):
        for club in wide_clubs():
            for member in range(0, len(club), 7):
                wrong = list(club)
                wrong[member] = otherwise([club[member]], 0)[0]
                told = answer_of(slips.one_came, wrong)
                self.assertEqual(told, [i for i in range(len(club)) if can_be(otherwise(wrong, i))])
                self.assertIn(member, told)

    def test_one_day(self):
        chance = random.Random(114)
        for club in wide_clubs():
            member = chance.choice([i for i, row in enumerate(club) if row[1] == "brought"])
            day, came, number = club[member]
            wrong = [(0, came, number)] + club[:member] + club[member + 1:]
            told = answer_of(slips.one_day, wrong, 0)
            self.assertTrue(in_stretches(told, day))
            self.assertFalse(in_stretches(told, 0))

    def test_two_numbers(self):
        chance = random.Random(115)
        for club in wide_clubs():
            told = answer_of(slips.two_numbers, club)
            self.assertEqual(told, sorted(told))
            for raised, lowered, least, greatest in chance.sample(told, min(30, len(told))):
                self.assertTrue(1 <= least <= greatest)
                for many in range(1, club[lowered][2] + 1):
                    fits = can_be(moved(club, raised, lowered, many))
                    self.assertEqual(fits, least <= many <= greatest)
            pairs = [(row[0], row[1]) for row in told]
            for _ in range(30):
                raised, lowered = chance.sample(range(len(club)), 2)
                if club[lowered][2] and (raised, lowered) not in pairs:
                    for many in range(1, club[lowered][2] + 1):
                        self.assertFalse(can_be(moved(club, raised, lowered, many)))


class WrongInputsTest(unittest.TestCase):
    def test_invalid_club(self):
        for club in INVALID_CLUBS + [[(0, "unsure", 0)]]:
            with self.subTest(club=club):
                for call in ABOUT_CLUB:
                    self.assertIs(kind_of(call, club), errors.InvalidClub)
                self.assertIs(kind_of(slips.one_day, club, 0), errors.InvalidClub)
                self.assertIs(kind_of(slips.one_day, club, -1), errors.InvalidClub)

    def test_invalid_member(self):
        for member in NO_MEMBERS:
            self.assertIs(kind_of(slips.one_day, EXAMPLE, member), errors.InvalidMember)
        for club, _ in NOT_POSSIBLE:
            self.assertIs(kind_of(slips.one_day, club, len(club)), errors.InvalidMember)

    def test_no_possible_club_is_needed(self):
        for club, conflict in NOT_POSSIBLE:
            self.assertEqual(clubs.conflict_of(club), conflict)
            for call in ABOUT_CLUB:
                self.assertIs(type(answer_of(call, club)), list)
            for member in range(len(club)):
                self.assertIs(type(answer_of(slips.one_day, club, member)), list)

    def test_a_list_that_is_changed_later(self):
        club = list(EXAMPLE)
        told = slips.one_day(club, 2)
        club.clear()
        self.assertEqual(told, [(1, 2)])

    def test_by_name(self):
        self.assertEqual(slips.one_number(club=LOOSE), [(0, 1), (1, 0)])
        self.assertEqual(slips.two_numbers(club=LATE), [(0, 2, 1, 1)])
        self.assertEqual(slips.one_came(club=LOOSE), [1, 3])
        self.assertEqual(slips.one_day(member=1, club=LATE), [(10, TOP)])


if __name__ == "__main__":
    unittest.main()
