import random
import unittest

from broughtin import alike, clubs, errors, links, ways
from trial import (
    EXAMPLE, EXAMPLE_WAYS, INVALID_CLUBS, NOT_POSSIBLE, TOP, answer_of, conflict_in, kind_of, random_club,
    small_clubs, tried_clubs, ways_by_trying, wide_clubs,
)

PAIRWISE = [alike.same_ways, alike.parting_way]
# The example with other days, and the plain club of both: no member of the last but one day has a number.
FAR = [(5, "alone", 2), (9, "alone", 1), (10, "brought", 1), (10, "brought", 0), (20, "brought", 0)]
FAR += [(TOP, "brought", 0)]
PLAIN = [(0, "alone", 2), (0, "alone", 1), (1, "brought", 1), (1, "brought", 0), (2, "brought", 0), (2, "brought", 0)]


def on_days(club, days):
    """The club with other days for its members."""
    return [(day, came, number) for day, (_, came, number) in zip(days, club)]


def plain_by_trying(club):
    """The plain club, each day put together with those before as long as all ways are the same."""
    found = ways_by_trying(club)
    days = sorted({row[0] for row in club})
    groups = {}
    start = number = 0
    for at, day in enumerate(days):
        low = days[start]
        merged = [low if low <= row[0] <= day else row[0] for row in club]
        if ways_by_trying(on_days(club, merged)) != found:
            start, number = at, number + 1
        groups[day] = number
    return on_days(club, [groups[row[0]] for row in club])


def neighbours(chance, club):
    """Possible clubs that differ from a club in days alone, in numbers, in how members came, in length."""
    size = len(club)
    told = []
    for _ in range(4):
        told.append(on_days(club, sorted(chance.randrange(6) for _ in range(size))))
    numbers = [row[2] for row in club]
    for _ in range(2):
        chance.shuffle(numbers)
        told.append([(day, came, number) for (day, came, _), number in zip(club, numbers)])
    spot = chance.randrange(size)
    day, came, number = club[spot]
    told.append(club[:spot] + [(day, "alone", number)] + club[spot + 1:])
    one, two = chance.randrange(size), chance.randrange(size)
    cames = [row[1] for row in club]
    cames[one], cames[two] = cames[two], cames[one]
    told.append([(day, came, number) for (day, _, number), came in zip(club, cames)])
    told.append(club + [(club[-1][0], "alone", 0)])
    told.append(club[:-1])
    told.append(on_days(club, range(size)))
    return [other for other in told if clubs.is_club(other) and clubs.conflict_of(other) is None]


class SameWaysTest(unittest.TestCase):
    def test_example(self):
        self.assertEqual(ways_by_trying(FAR), EXAMPLE_WAYS)
        self.assertIs(answer_of(alike.same_ways, EXAMPLE, FAR), True)
        self.assertIsNone(answer_of(alike.parting_way, EXAMPLE, FAR))
        self.assertIs(answer_of(alike.same_ways, EXAMPLE, EXAMPLE), True)
        self.assertIs(answer_of(alike.same_ways, EXAMPLE, list(EXAMPLE)), True)

    def test_days_alone(self):
        # Member 3 on day 2 could bring neither more nor less, but member 2 can bring it then.
        other = on_days(EXAMPLE, [0, 0, 1, 2, 2, 3])
        self.assertIs(answer_of(alike.same_ways, EXAMPLE, other), False)
        word, way = answer_of(alike.parting_way, EXAMPLE, other)
        self.assertEqual((word, way[3]), ("second", 2))
        word, way = answer_of(alike.parting_way, other, EXAMPLE)
        self.assertEqual((word, way[3]), ("first", 2))

    def test_unlike_lengths(self):
        longer = EXAMPLE + [(3, "alone", 0)]
        self.assertIs(answer_of(alike.same_ways, EXAMPLE, longer), False)
        word, way = answer_of(alike.parting_way, EXAMPLE, longer)
        self.assertIn((word, len(way)), [("first", 6), ("second", 7)])
        self.assertIs(answer_of(alike.same_ways, [(0, "alone", 0)], [(0, "alone", 0)] * 2), False)
        self.assertIs(answer_of(alike.same_ways, [(0, "alone", 0)] * 2, [(0, "alone", 0), (TOP, "alone", 0)]), True)

    def test_how_one_came(self):
        one = [(0, "alone", 1), (1, "alone", 0), (1, "brought", 0)]
        two = [(0, "alone", 1), (1, "brought", 0), (1, "alone", 0)]
        self.assertIs(answer_of(alike.same_ways, one, two), False)
        word, way = answer_of(alike.parting_way, one, two)
        self.assertIn((word, way), [("first", [None, None, 0]), ("second", [None, 0, None])])

    def test_one_number(self):
        one = [(0, "alone", 1), (0, "alone", 0), (1, "brought", 0)]
        two = [(0, "alone", 0), (0, "alone", 1), (1, "brought", 0)]
        self.assertIs(answer_of(alike.same_ways, one, two), False)
        word, way = answer_of(alike.parting_way, one, two)
        self.assertIn((word, way), [("first", [None, None, 0]), ("second", [None, None, 1])])

    def test_a_closing_day_of_only_one(self):
        # Unlike lesser days, but the links that can be are the same.
        one = [(0, "alone", 1), (1, "brought", 1), (2, "brought", 0)]
        self.assertIs(answer_of(alike.same_ways, one, on_days(one, [3, 8, 9])), True)
        loose = [(0, "alone", 1), (1, "alone", 1), (2, "brought", 0), (3, "brought", 0)]
        tight = on_days(loose, [0, 2, 2, 3])
        self.assertIs(answer_of(alike.same_ways, loose, tight), False)
        self.assertEqual(answer_of(alike.parting_way, tight, loose), ("second", [None, None, 1, 0]))


class AgainstAllWaysTest(unittest.TestCase):
    def hold(self, one, two, found_one, found_two):
        same = found_one == found_two
        self.assertIs(alike.same_ways(one, two), same, (one, two))
        told = alike.parting_way(one, two)
        if same:
            self.assertIsNone(told, (one, two))
        else:
            self.assertIs(type(told), tuple)
            word, way = told
            here, there = {"first": (found_one, found_two), "second": (found_two, found_one)}[word]
            self.assertIn(way, here, (one, two))
            self.assertNotIn(way, there, (one, two))

    def test_all_pairs_of_small_clubs(self):
        pool = [(club, ways_by_trying(club)) for size in (1, 2, 3) for club in small_clubs(size)]
        pool = [(club, found) for club, found in pool if found]
        for one, found_one in pool:
            for two, found_two in pool:
                self.hold(one, two, found_one, found_two)

    def test_neighbours(self):
        chance = random.Random(131)
        seen = {True: 0, False: 0}
        for _ in range(300):
            club = random_club(chance, chance.randint(4, 7), chance.choice((3, 4, 7)), 0.85)
            found = ways_by_trying(club)
            for other in neighbours(chance, club):
                found_other = ways_by_trying(other)
                self.hold(club, other, found, found_other)
                self.hold(other, club, found_other, found)
                seen[found == found_other] += 1
        self.assertGreater(min(seen.values()), 300)


class PlainClubTest(unittest.TestCase):
    def test_example(self):
        for club in (EXAMPLE, FAR, PLAIN):
            self.assertEqual(answer_of(alike.plain_club, club), PLAIN)

    def test_nobody_brought(self):
        club = [(3, "alone", 0), (5, "alone", 0), (TOP, "alone", 0)]
        self.assertEqual(answer_of(alike.plain_club, club), [(0, "alone", 0)] * 3)
        self.assertEqual(answer_of(alike.plain_club, [(TOP, "alone", 0)]), [(0, "alone", 0)])

    def test_from_the_first_day_on(self):
        # The day in the middle can be put to either side; it goes to the earlier one.
        club = [(2, "alone", 1), (4, "alone", 0), (6, "brought", 0)]
        self.assertEqual(answer_of(alike.plain_club, club), [(0, "alone", 1), (0, "alone", 0), (1, "brought", 0)])

    def test_a_chain_stays(self):
        club = [(day * 7, "brought" if day else "alone", 1 if day < 9 else 0) for day in range(10)]
        told = [(day, came, number) for day, (_, came, number) in enumerate(club)]
        self.assertEqual(answer_of(alike.plain_club, club), told)

    def test_days_that_no_link_needs(self):
        # Slack is 0 on day 1, so member 0 brings none of those behind it.
        club = [(0, "alone", 1), (1, "brought", 0), (2, "alone", 1), (3, "brought", 0)]
        told = [(0, "alone", 1), (1, "brought", 0), (1, "alone", 1), (2, "brought", 0)]
        self.assertEqual(answer_of(alike.plain_club, club), told)

    def test_against_trying(self):
        for club, found in tried_clubs():
            if len(club) <= 7:
                told = alike.plain_club(club)
                self.assertEqual(told, plain_by_trying(club), club)
                self.assertEqual(ways_by_trying(told), found, club)
                self.hold_form(club, told)

    def hold_form(self, club, told):
        self.assertEqual([row[1:] for row in told], [row[1:] for row in club])
        days = sorted({row[0] for row in told})
        self.assertEqual(days, list(range(len(days))))
        self.assertEqual(alike.plain_club(told), told)
        self.assertIs(alike.same_ways(club, told), True)

    def test_wide_clubs(self):
        for club in wide_clubs():
            told = answer_of(alike.plain_club, club)
            self.hold_form(club, told)
            self.assertEqual(ways.count_ways(told), ways.count_ways(club))
            for member in range(len(club)):
                self.assertEqual(links.bringers_of(told, member), links.bringers_of(club, member))
            # Neighbouring days of the plain club cannot be put together.
            for day in range(told[-1][0]):
                merged = on_days(told, [row[0] - (row[0] > day) for row in told])
                can_be = clubs.conflict_of(merged) is None
                self.assertFalse(can_be and alike.same_ways(told, merged))

    def test_same_plain_club_of_stretched_days(self):
        chance = random.Random(132)
        for club in wide_clubs():
            days = sorted({row[0] for row in club})
            far = sorted(chance.randrange(TOP // 2) for _ in days)
            moved = on_days(club, [far[days.index(row[0])] for row in club])
            if len(set(far)) == len(days):
                self.assertEqual(alike.plain_club(moved), alike.plain_club(club))
                self.assertIs(answer_of(alike.same_ways, moved, club), True)


class WideClubsTest(unittest.TestCase):
    def test_one_day_moved(self):
        chance = random.Random(133)
        for club in wide_clubs():
            for _ in range(8):
                spot = chance.randrange(1, len(club))
                days = [row[0] for row in club]
                days[spot] = days[spot - 1]
                other = on_days(club, days)
                if clubs.conflict_of(other) is not None:
                    continue
                told = answer_of(alike.parting_way, club, other)
                self.assertIs(answer_of(alike.same_ways, club, other), told is None)
                if told is not None:
                    here, there = (club, other) if told[0] == "first" else (other, club)
                    self.assertIs(ways.is_way(here, told[1]), True)
                    self.assertIs(ways.is_way(there, told[1]), False)

    def test_a_list_that_is_changed_later(self):
        club = list(EXAMPLE)
        told = alike.plain_club(club)
        other = on_days(EXAMPLE, [0, 0, 1, 2, 2, 3])
        _, way = alike.parting_way(club, other)
        way.append("changed")
        club.clear()
        self.assertEqual(told, PLAIN)
        self.assertIs(ways.is_way(other, alike.parting_way(EXAMPLE, other)[1]), True)


class WrongInputsTest(unittest.TestCase):
    def test_invalid_club(self):
        for club in INVALID_CLUBS + [[(0, "unsure", 0)]]:
            with self.subTest(club=club):
                for call in PAIRWISE:
                    self.assertIs(kind_of(call, club, EXAMPLE), errors.InvalidClub)
                    self.assertIs(kind_of(call, EXAMPLE, club), errors.InvalidClub)
                    self.assertIs(kind_of(call, club, club), errors.InvalidClub)
                self.assertIs(kind_of(alike.plain_club, club), errors.InvalidClub)

    def test_both_are_looked_at_ahead_of_impossible(self):
        for club, _ in NOT_POSSIBLE:
            for call in PAIRWISE:
                self.assertIs(kind_of(call, club, []), errors.InvalidClub)
                self.assertIs(kind_of(call, [], club), errors.InvalidClub)

    def test_the_first_one_tells_the_conflict(self):
        for club, conflict in NOT_POSSIBLE:
            for call in PAIRWISE:
                self.assertEqual(conflict_in(call, club, EXAMPLE), conflict)
                self.assertEqual(conflict_in(call, EXAMPLE, club), conflict)
                for other, conflict_other in NOT_POSSIBLE:
                    self.assertEqual(conflict_in(call, club, other), conflict)
                    self.assertEqual(conflict_in(call, other, club), conflict_other)
            self.assertEqual(conflict_in(alike.plain_club, club), conflict)

    def test_by_name(self):
        self.assertIs(alike.same_ways(other=FAR, club=EXAMPLE), True)
        other = on_days(EXAMPLE, [0, 0, 1, 2, 2, 3])
        self.assertEqual(alike.parting_way(other=other, club=EXAMPLE)[0], "second")
        self.assertEqual(alike.plain_club(club=FAR), PLAIN)


if __name__ == "__main__":
    unittest.main()
