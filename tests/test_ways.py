import random
import unittest
from collections import Counter
from itertools import product
from math import factorial, prod

from broughtin import clubs, errors, links, ways
from trial import (
    EXAMPLE, EXAMPLE_WAYS, INVALID_CLUBS, NOT_POSSIBLE, STRANGE, TOP, answer_of, conflict_in, error_of, kind_of,
    tried_clubs, wide_clubs,
)

ALONE = [(0, "alone", 0), (5, "alone", 0)]
SIXTY = [(0, "alone", 59)] + [(TOP, "brought", 0)] * 59

# No object here is a way of the example.
NO_WAYS = STRANGE + [
    [],
    tuple(EXAMPLE_WAYS[0]),
    EXAMPLE_WAYS,
    [None, None, 0, 0, 1],
    [None, None, 0, 0, 1, 2, None],
    [None, None, None, 0, 1, 2],
    [0, None, 0, 0, 1, 2],
    [None, 0, 0, 0, 1, 2],
    [None, None, 0, 0, 0, 2],
    [None, None, 0, 0, 0, 1],
    [None, None, 1, 1, 0, 2],
    [None, None, 0, 0, 1, 1],
    [None, None, 0, 2, 1, 0],
    [None, None, 0, 0, 1, 5],
    [None, None, 0, 0, 1, 6],
    [None, None, 0, 0, 1, -4],
    [None, None, 0, 0, 1, TOP],
    [None, None, 0, 0, True, 2],
    [None, None, False, 0, 1, 2],
    [None, None, 0, 0, "1", 2],
    [None, None, 0, 0, 1, [2]],
    [None, None, 0, 0, 1, (2,)],
    [-1, -1, 0, 0, 1, 2],
    [False, None, 0, 0, 1, 2],
    {0: None, 1: None, 2: 0, 3: 0, 4: 1, 5: 2},
    "--0012",
    errors.InvalidWay("no way"),
]

NO_DRAWS = STRANGE + [
    (0, 0, 0, 0), [True, 0, 0, 0], [0, 0, 0, False], [None, 0, 0, 0], ["0", 0, 0, 0], [[0], 0, 0, 0], [(), 0, 0, 0],
    [0, 0, 0, None], {0: 0}, "0000", [errors.InvalidDraws("none")],
]


def slots_by_counting(club):
    """For each brought member how many slots of lesser days its forerunners have left."""
    brought = [i for i, row in enumerate(club) if row[1] == "brought"]
    return [sum(row[2] for row in club if row[0] < club[i][0]) - k for k, i in enumerate(brought)]


def way_by_slots(club, draws):
    """The way of some draws, with every single slot written out."""
    slots = [i for i, row in enumerate(club) for _ in range(row[2])]
    way, rest = [None] * len(club), list(draws)
    for member, (day, came, _) in enumerate(club):
        if came == "brought":
            can = [at for at, i in enumerate(slots) if club[i][0] < day]
            way[member] = slots.pop(can[rest.pop(0)])
    return way


class ExampleTest(unittest.TestCase):
    def test_six_ways(self):
        self.assertEqual(answer_of(ways.count_ways, EXAMPLE), 6)
        self.assertEqual(answer_of(ways.nth_way, EXAMPLE, 0), [None, None, 0, 0, 1, 2])
        self.assertEqual([answer_of(ways.nth_way, EXAMPLE, index) for index in range(6)], EXAMPLE_WAYS)
        self.assertEqual([answer_of(ways.way_index, EXAMPLE, way) for way in EXAMPLE_WAYS], list(range(6)))
        for way in EXAMPLE_WAYS:
            self.assertIs(answer_of(ways.is_way, EXAMPLE, way), True)

    def test_fair_ways(self):
        # The slots are 0 0 1; then 1 or 0 and 2.
        self.assertEqual(answer_of(ways.fair_way, EXAMPLE, [0, 0, 0, 0]), [None, None, 0, 0, 1, 2])
        self.assertEqual(answer_of(ways.fair_way, EXAMPLE, [2, 1, 1, 0]), [None, None, 1, 0, 2, 0])
        self.assertEqual(answer_of(ways.fair_way, EXAMPLE, [1, 1, 0, 0]), [None, None, 0, 1, 0, 2])


class IsWayTest(unittest.TestCase):
    def test_what_is_no_way(self):
        for thing in NO_WAYS:
            with self.subTest(thing=thing):
                self.assertIs(answer_of(ways.is_way, EXAMPLE, thing), False)

    def test_clubs_without_ways(self):
        for club, _ in NOT_POSSIBLE:
            for thing in ([None] * len(club), [None, 0, 0], [None, 0, 1], [None, 0, 0, 0], [], None):
                self.assertIs(answer_of(ways.is_way, club, thing), False)

    def test_nobody_brought(self):
        self.assertIs(answer_of(ways.is_way, ALONE, [None, None]), True)
        self.assertIs(answer_of(ways.is_way, ALONE, [None]), False)
        self.assertIs(answer_of(ways.is_way, ALONE, [None, 0]), False)

    def test_bringers_of_the_same_day(self):
        club = [(0, "alone", 1), (3, "brought", 1), (3, "alone", 0), (4, "brought", 0)]
        self.assertIs(answer_of(ways.is_way, club, [None, 0, None, 1]), True)
        self.assertIs(answer_of(ways.is_way, club, [None, 1, None, 0]), False)
        same = [(3, "alone", 1), (3, "brought", 0)]
        self.assertIs(answer_of(ways.is_way, same, [None, 0]), False)


class AgainstAllWaysTest(unittest.TestCase):
    def test_counts_and_indices(self):
        for club, found in tried_clubs():
            ascending = sorted(found, key=lambda way: [i for i in way if i is not None])
            self.assertEqual(ways.count_ways(club), len(found), club)
            self.assertEqual([ways.nth_way(club, index) for index in range(len(found))], ascending, club)
            self.assertEqual([ways.way_index(club, way) for way in ascending], list(range(len(found))), club)

    def test_which_lists_are_ways(self):
        for club, found in tried_clubs():
            if len(club) > 4:
                continue
            for way in product([None] + list(range(len(club))), repeat=len(club)):
                self.assertEqual(ways.is_way(club, list(way)), list(way) in found, (club, way))

    def test_swapped_bringers(self):
        for club, found in tried_clubs():
            for way in found:
                for one in range(len(club)):
                    changed = way[:one] + way[one + 1:] + way[one:one + 1]
                    self.assertEqual(ways.is_way(club, changed), changed in found, (club, changed))

    def test_fair_way_over_all_draws(self):
        seen = 0
        for club, found in tried_clubs():
            counts = slots_by_counting(club)
            if prod(counts) > 400:
                continue
            seen += 1
            told = Counter()
            for draws in product(*[range(count) for count in counts]):
                way = ways.fair_way(club, list(draws))
                self.assertEqual(way, way_by_slots(club, draws), (club, draws))
                told[tuple(way)] += 1
            often = prod(factorial(row[2]) for row in club)
            self.assertEqual(told, {tuple(way): often for way in found}, club)
        self.assertGreater(seen, 500)

    def test_agreement_with_clubs_and_links(self):
        for club, found in tried_clubs():
            free = [clubs.free_at(club, day) for day in clubs.days_in(club)]
            slack = [clubs.slack_at(club, day) for day in clubs.days_in(club)]
            top = prod(prod(range(low + 1, high + 1)) for low, high in zip(slack, free))
            self.assertEqual(ways.count_ways(club) * prod(factorial(row[2]) for row in club), top, club)
            self.assertIsNone(clubs.conflict_of(club))
            first, last = ways.nth_way(club, 0), ways.nth_way(club, len(found) - 1)
            for bringer, member in links.sure_links(club):
                self.assertEqual((first[member], last[member]), (bringer, bringer), club)
            for member in clubs.brought_in(club):
                self.assertIn(first[member], links.bringers_of(club, member))
                self.assertIn(last[member], links.bringers_of(club, member))


class WideClubsTest(unittest.TestCase):
    def test_there_and_back(self):
        chance = random.Random(5)
        for club in wide_clubs():
            count = ways.count_ways(club)
            indices = sorted({0, count - 1, count // 2} | {chance.randrange(count) for _ in range(20)})
            told = [ways.nth_way(club, index) for index in indices]
            self.assertEqual([ways.way_index(club, way) for way in told], indices)
            self.assertTrue(all(ways.is_way(club, way) for way in told))
            bringers = [[i for i in way if i is not None] for way in told]
            self.assertEqual(bringers, sorted(bringers))
            self.assertEqual(len({tuple(row) for row in bringers}), len(indices))
            self.assertIs(kind_of(ways.nth_way, club, count), errors.InvalidIndex)

    def test_first_and_last_way(self):
        for club in wide_clubs():
            counts = slots_by_counting(club)
            self.assertEqual(ways.nth_way(club, 0), ways.fair_way(club, [0] * len(counts)))
            last = ways.fair_way(club, [count - 1 for count in counts])
            self.assertEqual(ways.way_index(club, last), ways.count_ways(club) - 1)

    def test_fair_ways(self):
        chance = random.Random(6)
        for club in wide_clubs():
            for _ in range(5):
                draws = [chance.randrange(count) for count in slots_by_counting(club)]
                way = answer_of(ways.fair_way, club, draws)
                self.assertEqual(way, way_by_slots(club, draws))
                self.assertIs(ways.is_way(club, way), True)

    def test_one_way_for_sixty(self):
        self.assertEqual(answer_of(ways.count_ways, SIXTY), 1)
        self.assertEqual(answer_of(ways.nth_way, SIXTY, 0), [None] + [0] * 59)

    def test_more_ways_than_31_digits(self):
        club = [(0, "alone", 1)] * 30 + [(1, "brought", 0)] * 30
        count = answer_of(ways.count_ways, club)
        self.assertEqual(count, factorial(30))
        self.assertGreater(count, TOP)
        self.assertEqual(answer_of(ways.nth_way, club, count - 1), [None] * 30 + list(range(30))[::-1])
        self.assertEqual(answer_of(ways.way_index, club, [None] * 30 + list(range(30))[::-1]), count - 1)
        self.assertIs(kind_of(ways.nth_way, club, count), errors.InvalidIndex)


class EdgesTest(unittest.TestCase):
    def test_nobody_brought(self):
        self.assertEqual(answer_of(ways.count_ways, ALONE), 1)
        self.assertEqual(answer_of(ways.nth_way, ALONE, 0), [None, None])
        self.assertEqual(answer_of(ways.way_index, ALONE, [None, None]), 0)
        self.assertEqual(answer_of(ways.fair_way, ALONE, []), [None, None])
        self.assertIs(kind_of(ways.fair_way, ALONE, [0]), errors.InvalidDraws)
        self.assertIs(kind_of(ways.nth_way, ALONE, 1), errors.InvalidIndex)

    def test_indices(self):
        for index in (-1, -6, 6, 7, TOP, -TOP, True, False):
            with self.subTest(index=index):
                self.assertIs(kind_of(ways.nth_way, EXAMPLE, index), errors.InvalidIndex)

    def test_no_way_to_index(self):
        for thing in NO_WAYS:
            with self.subTest(thing=thing):
                self.assertIs(kind_of(ways.way_index, EXAMPLE, thing), errors.InvalidWay)

    def test_draws(self):
        for draws in NO_DRAWS + [
            [], [0, 0, 0], [0, 0, 0, 0, 0], [-1, 0, 0, 0], [0, 0, 0, -1], [3, 0, 0, 0], [0, 2, 0, 0], [0, 0, 2, 0],
            [0, 0, 0, 1], [0, 0, 0, TOP], [-TOP, 0, 0, 0],
        ]:
            with self.subTest(draws=draws):
                self.assertIs(kind_of(ways.fair_way, EXAMPLE, draws), errors.InvalidDraws)
        self.assertEqual(answer_of(ways.fair_way, EXAMPLE, [2, 1, 1, 0]), [None, None, 1, 0, 2, 0])


class WrongInputsTest(unittest.TestCase):
    def test_invalid_club(self):
        for club in INVALID_CLUBS:
            with self.subTest(club=club):
                self.assertIs(kind_of(ways.is_way, club, None), errors.InvalidClub)
                self.assertIs(kind_of(ways.count_ways, club), errors.InvalidClub)
                self.assertIs(kind_of(ways.nth_way, club, -1), errors.InvalidClub)
                self.assertIs(kind_of(ways.way_index, club, None), errors.InvalidClub)
                self.assertIs(kind_of(ways.fair_way, club, None), errors.InvalidClub)

    def test_impossible_with_what_conflict_of_tells(self):
        for club, conflict in NOT_POSSIBLE:
            with self.subTest(club=club):
                self.assertEqual(clubs.conflict_of(club), conflict)
                self.assertEqual(conflict_in(ways.count_ways, club), conflict)
                self.assertEqual(conflict_in(ways.nth_way, club, 0), conflict)
                self.assertEqual(conflict_in(ways.way_index, club, [None] * len(club)), conflict)
                self.assertEqual(conflict_in(ways.fair_way, club, [0, 0]), conflict)

    def test_impossible_ahead_of_index_way_and_draws(self):
        for club, conflict in NOT_POSSIBLE:
            for index in (-1, 0, 1, TOP):
                self.assertEqual(conflict_in(ways.nth_way, club, index), conflict)
            for way in NO_WAYS:
                self.assertEqual(conflict_in(ways.way_index, club, way), conflict)
            for draws in ([], [0] * 7, [-1, 0], [TOP, TOP]):
                self.assertEqual(conflict_in(ways.fair_way, club, draws), conflict)

    def test_no_list_of_integers_ahead_of_impossible(self):
        for club, _ in NOT_POSSIBLE:
            for draws in NO_DRAWS:
                with self.subTest(draws=draws):
                    self.assertIs(kind_of(ways.fair_way, club, draws), errors.InvalidDraws)

    def test_errors_are_club_errors(self):
        for error in (
            error_of(ways.nth_way, EXAMPLE, 6), error_of(ways.way_index, EXAMPLE, []),
            error_of(ways.fair_way, EXAMPLE, []),
        ):
            self.assertEqual(type(error).__bases__, (errors.ClubError,))
            self.assertIsInstance(error, ValueError)

    def test_by_name(self):
        self.assertIs(ways.is_way(thing=EXAMPLE_WAYS[1], club=EXAMPLE), True)
        self.assertEqual(ways.count_ways(club=EXAMPLE), 6)
        self.assertEqual(ways.nth_way(index=5, club=EXAMPLE), EXAMPLE_WAYS[5])
        self.assertEqual(ways.way_index(way=EXAMPLE_WAYS[4], club=EXAMPLE), 4)
        self.assertEqual(ways.fair_way(draws=[0, 0, 0, 0], club=EXAMPLE), EXAMPLE_WAYS[0])


if __name__ == "__main__":
    unittest.main()
