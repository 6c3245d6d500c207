import random
import unittest

from broughtin import clubs, errors
from trial import (
    EXAMPLE, STRANGE, answer_of, conflict_by_trying, error_of, random_club, small_clubs, ways_by_trying,
)

TOP = 10 ** 30
# Too few slots on the days 2 and 5, none on day 9, and one number too many in all.
SHORT = [(0, "alone", 1), (2, "brought", 0), (2, "brought", 1), (5, "brought", 0), (9, "brought", 3)]
# Nothing short, three numbers too many.
LOOSE = [(0, "alone", 2), (1, "brought", 0), (1, "alone", 2)]

INVALID_CLUBS = STRANGE + [
    [],
    tuple(EXAMPLE),
    EXAMPLE[0],
    [EXAMPLE],
    [None],
    [[0, "alone", 0]],
    [()],
    [(0, "alone")],
    [(0, "alone", 0, 0)],
    [("alone", 0, 0)],
    [(-1, "alone", 0)],
    [(TOP + 1, "alone", 0)],
    [(0, "alone", -1)],
    [(0, "alone", TOP + 1)],
    [(True, "alone", 0)],
    [(False, "alone", 0)],
    [(0, "alone", True)],
    [(0, "alone", False)],
    [("0", "alone", 0)],
    [(0, "alone", "0")],
    [(None, "alone", 0)],
    [(0, "alone", None)],
    [(0, "alone", [0])],
    [(0, "unsure", 0)],
    [(0, "Alone", 0)],
    [(0, "brought ", 0)],
    [(0, "", 0)],
    [(0, None, 0)],
    [(0, 1, 0)],
    [(0, True, 0)],
    [(0, ["alone"], 0)],
    [(0, ("alone", "brought"), 0)],
    [(1, "alone", 0), (0, "alone", 0)],
    [(0, "alone", 0), (5, "alone", 0), (4, "alone", 0)],
    EXAMPLE + [(2, "alone", 0)],
    EXAMPLE + [[3, "alone", 0]],
    [(0, "alone", 0)] * 61,
    [(0, "alone", 0)] * 2000,
    [errors.InvalidClub("no member")],
    errors.InvalidClub("no club"),
]


class IsClubTest(unittest.TestCase):
    def test_clubs(self):
        for club in (
            EXAMPLE,
            SHORT,
            [(0, "alone", 0)],
            [(TOP, "brought", TOP)],
            [(0, "alone", TOP), (TOP, "alone", 0)],
            [(7, "brought", 0)] * 60,
            [(4, "brought", 2), (4, "alone", 1), (4, "brought", 0)],
        ):
            with self.subTest(club=club):
                self.assertIs(answer_of(clubs.is_club, club), True)

    def test_what_is_no_club(self):
        for thing in INVALID_CLUBS:
            with self.subTest(thing=thing):
                self.assertIs(answer_of(clubs.is_club, thing), False)

    def test_by_name(self):
        self.assertIs(clubs.is_club(thing=EXAMPLE), True)


class CountsTest(unittest.TestCase):
    def test_example(self):
        self.assertEqual([answer_of(clubs.free_at, EXAMPLE, day) for day in (1, 2, 3)], [3, 2, 1])
        self.assertEqual([answer_of(clubs.slack_at, EXAMPLE, day) for day in (1, 2, 3)], [1, 1, 0])
        self.assertEqual([answer_of(clubs.slots_ahead, EXAMPLE, day) for day in (0, 1, 2, 3, 4)], [0, 3, 4, 4, 4])

    def test_days_and_brought(self):
        self.assertEqual(answer_of(clubs.days_in, EXAMPLE), [0, 1, 2, 3])
        self.assertEqual(answer_of(clubs.brought_in, EXAMPLE), [2, 3, 4, 5])
        self.assertEqual(answer_of(clubs.days_in, SHORT), [0, 2, 5, 9])
        self.assertEqual(answer_of(clubs.brought_in, SHORT), [1, 2, 3, 4])
        self.assertEqual(answer_of(clubs.days_in, [(TOP, "alone", 0)]), [TOP])
        self.assertEqual(answer_of(clubs.brought_in, [(0, "alone", 0)]), [])
        many = [(day // 2, "brought", 0) for day in range(60)]
        self.assertEqual(answer_of(clubs.days_in, many), list(range(30)))
        self.assertEqual(answer_of(clubs.brought_in, many), list(range(60)))

    def test_days_that_are_no_days_of_the_club(self):
        club = [(3, "alone", 2), (3, "alone", 1), (6, "brought", 4), (6, "brought", 0), (20, "brought", 0)]
        rows = [(0, 0, 0, 0), (2, 0, 0, 0), (3, 0, 0, 0), (4, 3, 3, 3), (5, 3, 3, 3), (6, 3, 3, 1)]
        rows += [(7, 7, 5, 5), (19, 7, 5, 5), (20, 7, 5, 4), (21, 7, 4, 4), (TOP, 7, 4, 4)]
        for day, ahead, free, slack in rows:
            with self.subTest(day=day):
                self.assertEqual(answer_of(clubs.slots_ahead, club, day), ahead)
                self.assertEqual(answer_of(clubs.free_at, club, day), free)
                self.assertEqual(answer_of(clubs.slack_at, club, day), slack)

    def test_results_below_zero(self):
        self.assertEqual([answer_of(clubs.free_at, SHORT, day) for day in (0, 2, 5, 9, 10)], [0, 1, 0, -1, 1])
        self.assertEqual([answer_of(clubs.slack_at, SHORT, day) for day in (0, 2, 5, 9, 10)], [0, -1, -1, -2, 1])
        first = [(0, "brought", 0)] * 60
        self.assertEqual(answer_of(clubs.slack_at, first, 0), -60)
        self.assertEqual(answer_of(clubs.free_at, first, 0), 0)
        self.assertEqual(answer_of(clubs.free_at, first, 1), -60)

    def test_great_numbers(self):
        club = [(0, "alone", TOP)] * 59 + [(TOP, "brought", TOP)]
        self.assertEqual(answer_of(clubs.slots_ahead, club, TOP), 59 * TOP)
        self.assertEqual(answer_of(clubs.free_at, club, TOP), 59 * TOP)
        self.assertEqual(answer_of(clubs.slack_at, club, TOP), 59 * TOP - 1)
        self.assertEqual(answer_of(clubs.slack_at, club, TOP - 1), 59 * TOP)

    def test_by_name(self):
        self.assertEqual(clubs.days_in(club=SHORT), [0, 2, 5, 9])
        self.assertEqual(clubs.brought_in(club=SHORT), [1, 2, 3, 4])
        self.assertEqual(clubs.slots_ahead(day=3, club=EXAMPLE), 4)
        self.assertEqual(clubs.free_at(day=3, club=EXAMPLE), 1)
        self.assertEqual(clubs.slack_at(day=1, club=EXAMPLE), 1)

    def test_returned_lists_are_of_the_caller(self):
        club = list(EXAMPLE)
        days, brought = clubs.days_in(club), clubs.brought_in(club)
        club.append((4, "brought", 0))
        self.assertEqual((days, brought), ([0, 1, 2, 3], [2, 3, 4, 5]))
        self.assertEqual((clubs.days_in(club), clubs.brought_in(club)), ([0, 1, 2, 3, 4], [2, 3, 4, 5, 6]))


class ConflictTest(unittest.TestCase):
    def test_possible(self):
        for club in (EXAMPLE, [(0, "alone", 0)], [(0, "alone", 0)] * 60, [(5, "alone", 1), (6, "brought", 0)]):
            self.assertIsNone(answer_of(clubs.conflict_of, club))

    def test_least_short_day(self):
        self.assertEqual(answer_of(clubs.conflict_of, SHORT), ("day", 2))
        self.assertEqual(answer_of(clubs.conflict_of, [(0, "brought", 0)]), ("day", 0))
        self.assertEqual(answer_of(clubs.conflict_of, [(TOP, "brought", 1)]), ("day", TOP))
        late = [(1, "alone", 2), (2, "brought", 0), (3, "alone", 0), (4, "brought", 0), (4, "brought", 5)]
        self.assertEqual(answer_of(clubs.conflict_of, late), ("day", 4))

    def test_as_many_numbers_but_too_late(self):
        self.assertEqual(answer_of(clubs.conflict_of, [(0, "alone", 0), (1, "brought", 1)]), ("day", 1))
        self.assertEqual(answer_of(clubs.conflict_of, [(1, "alone", 1), (1, "brought", 0)]), ("day", 1))

    def test_left(self):
        self.assertEqual(answer_of(clubs.conflict_of, LOOSE), ("left", 3))
        self.assertEqual(answer_of(clubs.conflict_of, [(0, "alone", 1)]), ("left", 1))
        self.assertEqual(answer_of(clubs.conflict_of, [(0, "alone", TOP)] * 60), ("left", 60 * TOP))

    def test_day_goes_ahead_of_left(self):
        club = [(0, "alone", 0), (1, "brought", 4), (2, "brought", 0)]
        self.assertEqual(answer_of(clubs.conflict_of, club), ("day", 1))

    def test_against_all_ways_of_small_clubs(self):
        for size in (1, 2, 3, 4):
            for club in small_clubs(size):
                self.assertEqual(clubs.conflict_of(club), conflict_by_trying(club), club)
                self.assertEqual(clubs.conflict_of(club) is None, ways_by_trying(club) != [], club)

    def test_against_ways_of_larger_clubs(self):
        chance = random.Random(7)
        for _ in range(600):
            club = random_club(chance, chance.randrange(4, 7))
            self.assertIsNone(clubs.conflict_of(club), club)
            spot = chance.randrange(len(club))
            day, came, number = club[spot]
            club[spot] = (day, chance.choice(("alone", "brought")), max(0, number + chance.choice((-1, 0, 1))))
            self.assertEqual(clubs.conflict_of(club), conflict_by_trying(club), club)
            self.assertEqual(clubs.conflict_of(club) is None, ways_by_trying(club) != [], club)

    def test_by_name(self):
        self.assertEqual(clubs.conflict_of(club=LOOSE), ("left", 3))


class ShowsConflictTest(unittest.TestCase):
    def test_true_ones(self):
        # The numbers of SHORT are 5 and 4 were brought, so ("left", 1) is true beside the days.
        for thing in (("day", 2), ("day", 5), ("day", 9), ("left", 1)):
            self.assertIs(answer_of(clubs.shows_conflict, SHORT, thing), True)
        self.assertIs(answer_of(clubs.shows_conflict, LOOSE, ("left", 3)), True)
        self.assertIs(answer_of(clubs.shows_conflict, [(0, "brought", 0)], ("day", 0)), True)
        self.assertIs(answer_of(clubs.shows_conflict, [(0, "alone", TOP)] * 60, ("left", 60 * TOP)), True)

    def test_near_ones(self):
        # Slack is below 0 on the days 3 and 6, too, but they are no days of the club.
        for thing in (("day", 0), ("day", 1), ("day", 3), ("day", 6), ("day", 10), ("left", 0), ("left", 2)):
            self.assertIs(answer_of(clubs.shows_conflict, SHORT, thing), False)
        for thing in (("left", 2), ("left", 4), ("left", -3), ("day", 0), ("day", 1), ("day", 3)):
            self.assertIs(answer_of(clubs.shows_conflict, LOOSE, thing), False)

    def test_other_objects(self):
        for thing in STRANGE + [
            ["day", 2], ["left", 1], ("left", True), ("day", True), ("day", False), ("Day", 2), ("LEFT", 1), ("", 2),
            ("days", 2), (2, "day"), ("day",), ("left",), ("day", 2, 2), ("left", 1, 0), ("day", "2"), ("day", None),
            ("left", None), ("day", [2]), ("day", (2,)), (["day"], 2), (None, 2), (("day", 2),), [("day", 2)], (),
            "day", "day 2", {"day": 2}, (1, 1), (True, True), ("left", "1"), errors.Impossible("day", 2),
        ]:
            with self.subTest(thing=thing):
                self.assertIs(answer_of(clubs.shows_conflict, SHORT, thing), False)

    def test_booleans_in_the_place_of_true_numbers(self):
        self.assertIs(clubs.shows_conflict([(0, "brought", 0)], ("day", False)), False)
        self.assertIs(clubs.shows_conflict([(0, "alone", 0), (1, "brought", 0)], ("day", True)), False)
        self.assertIs(clubs.shows_conflict([(0, "alone", 1)], ("left", True)), False)

    def test_possible_club_has_none(self):
        for thing in (("day", 0), ("day", 1), ("day", 3), ("left", 0), ("left", 1), ("left", -1), None):
            self.assertIs(answer_of(clubs.shows_conflict, EXAMPLE, thing), False)

    def test_too_few_numbers_are_no_left(self):
        club = [(0, "alone", 0), (1, "brought", 0)]
        for thing in (("left", -1), ("left", 0), ("left", 1)):
            self.assertIs(answer_of(clubs.shows_conflict, club, thing), False)
        self.assertIs(answer_of(clubs.shows_conflict, club, ("day", 1)), True)

    def test_against_counts(self):
        for club in small_clubs(3):
            left = sum(row[2] for row in club) - sum(row[1] == "brought" for row in club)
            for k in range(-3, 8):
                self.assertEqual(clubs.shows_conflict(club, ("left", k)), k >= 1 and k == left, club)
            for day in range(6):
                ahead = sum(row[2] for row in club if row[0] < day)
                taken = sum(row[1] == "brought" for row in club if row[0] <= day)
                short = ahead < taken and day in [row[0] for row in club]
                self.assertEqual(clubs.shows_conflict(club, ("day", day)), short, club)

    def test_what_conflict_of_tells_is_shown(self):
        for club in (SHORT, LOOSE, [(0, "brought", 0)]):
            self.assertIs(clubs.shows_conflict(club=club, thing=clubs.conflict_of(club)), True)


class WrongInputsTest(unittest.TestCase):
    def test_invalid_club(self):
        for call, rest in (
            (clubs.days_in, ()), (clubs.brought_in, ()), (clubs.conflict_of, ()), (clubs.slots_ahead, (0,)),
            (clubs.free_at, (0,)), (clubs.slack_at, (0,)), (clubs.shows_conflict, (("day", 0),)),
        ):
            for club in INVALID_CLUBS:
                with self.subTest(call=call.__name__, club=club):
                    self.assertIs(type(error_of(call, club, *rest)), errors.InvalidClub)

    def test_days_and_their_edges(self):
        for call in (clubs.slots_ahead, clubs.free_at, clubs.slack_at):
            for day in (-1, TOP + 1, -TOP, 10 * TOP, True, False):
                with self.subTest(call=call.__name__, day=day):
                    self.assertIs(type(error_of(call, EXAMPLE, day)), errors.InvalidDay)
                    self.assertIs(type(error_of(call, SHORT, day)), errors.InvalidDay)
            self.assertEqual(call(EXAMPLE, 0), 0)
            self.assertIs(type(call(EXAMPLE, TOP)), int)

    def test_the_club_is_looked_at_first(self):
        for call in (clubs.slots_ahead, clubs.free_at, clubs.slack_at):
            self.assertIs(type(error_of(call, [], -1)), errors.InvalidClub)
            self.assertIs(type(error_of(call, day=TOP + 1, club=tuple(EXAMPLE))), errors.InvalidClub)
        self.assertIs(type(error_of(clubs.shows_conflict, [], [])), errors.InvalidClub)

    def test_no_possible_club_is_needed(self):
        for call, rest in (
            (clubs.days_in, ()), (clubs.brought_in, ()), (clubs.slots_ahead, (5,)), (clubs.free_at, (5,)),
            (clubs.slack_at, (5,)), (clubs.conflict_of, ()), (clubs.shows_conflict, (None,)),
        ):
            for club in (SHORT, LOOSE):
                answer_of(call, club, *rest)


if __name__ == "__main__":
    unittest.main()
