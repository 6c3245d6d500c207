import random
import unittest
from itertools import combinations

from broughtin import clubs, errors, known, links, ways
from trial import (
    EXAMPLE, EXAMPLE_WAYS, INVALID_CLUBS, NOT_POSSIBLE, STRANGE, TOP, answer_of, conflict_in, kind_of, links_in,
    tried_clubs, wide_clubs,
)

ALONE = [(0, "alone", 0), (5, "alone", 0)]
QUESTIONS = [known.can_hold, known.span_paper, known.rest_club, known.count_with, known.way_with]

# Slack is 1, 0, 2, 1, 0 on the days 1, 2, 4, 5, 6.
SPANNED = [
    (0, "alone", 2), (1, "brought", 0), (2, "brought", 2), (2, "alone", 1),
    (4, "brought", 0), (5, "brought", 0), (6, "brought", 0),
]

# No object here is a list of links of the example.
NO_LINKS = STRANGE + [
    ((0, 2),), (0, 2), [0, 2], [[0, 2]], [(0,)], [()], [(0, 2, 3)], [None], ["0>2"], [{0: 2}], [[(0, 2)]],
    [(0, 0)], [(0, 1)], [(1, 0)], [(2, 0)],
    [(2, 2)], [(2, 3)], [(3, 2)], [(4, 2)], [(5, 4)],
    [(-1, 2)], [(6, 2)], [(0, 6)], [(0, -1)], [(0, -2)], [(TOP, 2)], [(0, TOP)],
    [(True, 4)], [(False, 4)], [(0, True)], [("0", 2)], [(0, "2")], [(None, 2)], [(0, None)], [(0, (2,))],
    [(0, 2), (0, 2)], [(0, 2), (1, 2)], [(0, 2), (0, 3), (1, 2)], [(0, 2), (0, 1)],
    [(0, 2)] * 60, [(0, 2)] * 61, [(0, 2)] * 2000, [errors.InvalidLinks("none")],
]


def some_links(chance, club, found):
    """Lists of links to ask for: some of one way, some of several ways, and some of no way."""
    bringers = {j: [i for i in range(len(club)) if club[i][0] < club[j][0]] for j in range(len(club))}
    brought = [j for j, row in enumerate(club) if row[1] == "brought" and bringers[j]]
    asked = [[]]
    for _ in range(12):
        members = chance.sample(brought, chance.randint(0, len(brought)))
        way = chance.choice(found)
        asked.append([(way[j], j) for j in members])
        asked.append([(chance.choice(found)[j], j) for j in members])
        asked.append([(chance.choice(bringers[j]), j) for j in members])
    return asked


def reasons_by_counting(club, asked):
    """All reasons against links in the sequence in which they are told, each counted by hand."""
    reasons = []
    for i, row in enumerate(club):
        if sum(bringer == i for bringer, _ in asked) > row[2]:
            reasons.append(("many", i))
    for day in sorted({row[0] for row in club}):
        ahead = sum(row[2] for row in club if row[0] < day)
        taken = sum(row[1] == "brought" for row in club if row[0] <= day)
        if sum(club[i][0] < day < club[j][0] for i, j in asked) > ahead - taken:
            reasons.append(("day", day))
    return reasons


class ExampleTest(unittest.TestCase):
    def test_one_link(self):
        self.assertIs(answer_of(known.can_hold, EXAMPLE, [(0, 5)]), True)
        self.assertIsNone(answer_of(known.span_paper, EXAMPLE, [(0, 5)]))
        self.assertEqual(answer_of(known.count_with, EXAMPLE, [(0, 5)]), 2)
        self.assertEqual(answer_of(known.way_with, EXAMPLE, [(0, 5)]), EXAMPLE_WAYS[3])
        rest = [(0, "alone", 1), (0, "alone", 1), (1, "brought", 1), (1, "brought", 0)]
        rest += [(2, "brought", 0), (3, "alone", 0)]
        self.assertEqual(answer_of(known.rest_club, EXAMPLE, [(0, 5)]), rest)

    def test_links_that_cannot_be_together(self):
        self.assertIs(answer_of(known.can_hold, EXAMPLE, [(0, 4), (0, 5)]), False)
        self.assertEqual(answer_of(known.span_paper, EXAMPLE, [(0, 4), (0, 5)]), ("day", 1))
        self.assertEqual(answer_of(known.count_with, EXAMPLE, [(0, 4), (0, 5)]), 0)
        self.assertIs(kind_of(known.rest_club, EXAMPLE, [(0, 4), (0, 5)]), errors.NoLink)
        self.assertIs(kind_of(known.way_with, EXAMPLE, [(0, 4), (0, 5)]), errors.NoLink)

    def test_links_of_a_whole_way(self):
        for way in EXAMPLE_WAYS:
            asked = links_in(way)
            self.assertEqual(answer_of(known.count_with, EXAMPLE, asked), 1)
            self.assertEqual(answer_of(known.way_with, EXAMPLE, asked[::-1]), way)
            self.assertEqual(answer_of(known.rest_club, EXAMPLE, asked), [(row[0], "alone", 0) for row in EXAMPLE])

    def test_no_links(self):
        self.assertIs(answer_of(known.can_hold, EXAMPLE, []), True)
        self.assertIsNone(answer_of(known.span_paper, EXAMPLE, []))
        self.assertEqual(answer_of(known.count_with, EXAMPLE, []), 6)
        self.assertEqual(answer_of(known.way_with, EXAMPLE, []), EXAMPLE_WAYS[0])
        self.assertEqual(answer_of(known.rest_club, EXAMPLE, []), EXAMPLE)
        self.assertIsNot(known.rest_club(EXAMPLE, []), EXAMPLE)


class SpanPaperTest(unittest.TestCase):
    def test_slack(self):
        self.assertEqual([clubs.slack_at(SPANNED, day) for day in (1, 2, 4, 5, 6)], [1, 0, 2, 1, 0])

    def test_many(self):
        self.assertEqual(answer_of(known.span_paper, SPANNED, [(1, 2)]), ("many", 1))
        self.assertEqual(answer_of(known.span_paper, SPANNED, [(3, 5), (3, 6)]), ("many", 3))
        self.assertEqual(answer_of(known.span_paper, SPANNED, [(2, 4), (2, 5), (2, 6)]), ("many", 2))

    def test_least_member_of_several(self):
        self.assertEqual(answer_of(known.span_paper, SPANNED, [(3, 6), (3, 5), (1, 4), (0, 1)]), ("many", 1))

    def test_day(self):
        self.assertEqual(answer_of(known.span_paper, SPANNED, [(0, 4)]), ("day", 2))
        self.assertIsNone(answer_of(known.span_paper, SPANNED, [(2, 6), (3, 5)]))
        late = [(0, "alone", 3), (TOP - 1, "brought", 0), (TOP - 1, "brought", 0), (TOP, "brought", 0)]
        self.assertIsNone(answer_of(known.span_paper, late, [(0, 3)]))
        late = [(0, "alone", 2), (TOP - 1, "brought", 1), (TOP - 1, "brought", 0), (TOP, "brought", 0)]
        self.assertEqual(answer_of(known.span_paper, late, [(0, 3)]), ("day", TOP - 1))

    def test_least_day_of_several(self):
        club = [(0, "alone", 1), (0, "alone", 1), (1, "brought", 1), (1, "alone", 0), (2, "brought", 0)]
        club += [(3, "brought", 0)]
        self.assertEqual([clubs.slack_at(club, day) for day in (1, 2, 3)], [1, 1, 0])
        self.assertEqual(answer_of(known.span_paper, club, [(0, 4), (1, 5)]), ("day", 1))
        chain = [(0, "alone", 2), (1, "brought", 1), (2, "brought", 1), (3, "brought", 0), (4, "brought", 0)]
        self.assertEqual([clubs.slack_at(chain, day) for day in (1, 2, 3, 4)], [1, 1, 1, 0])
        self.assertEqual(answer_of(known.span_paper, chain, [(0, 3), (1, 4)]), ("day", 2))
        self.assertEqual(answer_of(known.span_paper, chain, [(0, 3), (0, 4)]), ("day", 1))

    def test_days_spanned_strictly(self):
        # A link from day 2 to day 4 spans neither of them, though slack is 0 on day 2.
        self.assertIsNone(answer_of(known.span_paper, SPANNED, [(2, 4)]))
        self.assertIsNone(answer_of(known.span_paper, SPANNED, [(0, 2)]))
        self.assertIsNone(answer_of(known.span_paper, EXAMPLE, [(2, 5)]))

    def test_only_days_of_the_club(self):
        club = [(0, "alone", 1), (TOP, "brought", 0)]
        self.assertIsNone(answer_of(known.span_paper, club, [(0, 1)]))

    def test_both_would_hold(self):
        # Day 2 is spanned, too, but a member goes ahead of each day.
        self.assertEqual(answer_of(known.span_paper, SPANNED, [(0, 6), (3, 4), (3, 5)]), ("many", 3))
        self.assertEqual(answer_of(known.span_paper, SPANNED, [(0, 6), (3, 4)]), ("day", 2))


class AgainstAllWaysTest(unittest.TestCase):
    def test_links(self):
        chance = random.Random(8)
        for club, found in tried_clubs():
            for asked in some_links(chance, club, found):
                self.hold(club, found, asked)

    def hold(self, club, found, asked):
        having = [way for way in found if all(way[j] == i for i, j in asked)]
        reasons = reasons_by_counting(club, asked)
        self.assertIs(known.can_hold(club, asked), having != [], (club, asked))
        self.assertEqual(known.count_with(club, asked), len(having), (club, asked))
        self.assertEqual(known.span_paper(club, asked), reasons[0] if reasons else None, (club, asked))
        self.assertEqual(reasons == [], having != [], (club, asked))
        if having:
            least = min(having, key=lambda way: [i for i in way if i is not None])
            self.assertEqual(known.way_with(club, asked), least, (club, asked))
            rest = known.rest_club(club, asked)
            members = [j for _, j in asked]
            cut = [[None if j in members else i for j, i in enumerate(way)] for way in having]
            self.assertEqual(sorted(map(str, cut)), sorted(str(ways.nth_way(rest, k)) for k in range(len(having))))
            self.assertEqual(ways.count_ways(rest), len(having))
        else:
            self.assertIs(kind_of(known.way_with, club, asked), errors.NoLink)
            self.assertIs(kind_of(known.rest_club, club, asked), errors.NoLink)

    def test_all_pairs_of_links(self):
        for club, found in tried_clubs():
            if len(club) != 5:
                continue
            pairs = [(i, j) for j in clubs.brought_in(club) for i in range(j) if club[i][0] < club[j][0]]
            for asked in combinations(pairs, 2):
                if asked[0][1] != asked[1][1]:
                    having = [way for way in found if all(way[j] == i for i, j in asked)]
                    self.assertEqual(known.count_with(club, list(asked)), len(having), (club, asked))

    def test_agreement_with_links(self):
        for club, _ in tried_clubs():
            for j in clubs.brought_in(club):
                can = [i for i in range(j) if club[i][0] < club[j][0] and known.can_hold(club, [(i, j)])]
                self.assertEqual(can, links.bringers_of(club, j), club)


class OneByOneTest(unittest.TestCase):
    def test_in_any_sequence(self):
        chance = random.Random(9)
        for club in wide_clubs():
            way = ways.nth_way(club, chance.randrange(ways.count_ways(club)))
            asked = links_in(way)
            chance.shuffle(asked)
            half = asked[:len(asked) // 2]
            rest = club
            for link in half:
                rest = known.rest_club(rest, [link])
            self.assertEqual(rest, known.rest_club(club, half))
            self.assertEqual(rest, known.rest_club(club, sorted(half)))
            self.assertEqual(known.count_with(club, half), ways.count_ways(rest))
            self.assertEqual(known.way_with(club, half), known.way_with(club, half[::-1]))
            self.assertEqual(known.span_paper(club, half + [asked[-1]]), known.span_paper(club, [asked[-1]] + half))
            self.assertTrue(all(known.way_with(club, half)[j] == i for i, j in half))
            self.assertIs(ways.is_way(club, known.way_with(club, half)), True)

    def test_links_of_all_brought_members(self):
        for club in wide_clubs():
            for way in (ways.nth_way(club, 0), ways.nth_way(club, ways.count_ways(club) - 1)):
                asked = links_in(way)[::-1]
                self.assertEqual(answer_of(known.way_with, club, asked), way)
                self.assertEqual(answer_of(known.count_with, club, asked), 1)
                self.assertEqual(answer_of(known.rest_club, club, asked), [(row[0], "alone", 0) for row in club])

    def test_no_links_and_all_counts(self):
        for club in wide_clubs():
            self.assertEqual(known.count_with(club, []), ways.count_ways(club))
            self.assertEqual(known.way_with(club, []), ways.nth_way(club, 0))
            member = clubs.brought_in(club)[-1]
            counts = [known.count_with(club, [(i, member)]) for i in links.bringers_of(club, member)]
            self.assertEqual(sum(counts), ways.count_ways(club))
            self.assertGreater(min(counts), 0)


class EdgesTest(unittest.TestCase):
    def test_nobody_brought(self):
        self.assertIs(answer_of(known.can_hold, ALONE, []), True)
        self.assertEqual(answer_of(known.count_with, ALONE, []), 1)
        self.assertEqual(answer_of(known.way_with, ALONE, []), [None, None])
        self.assertEqual(answer_of(known.rest_club, ALONE, []), ALONE)
        for call in QUESTIONS:
            self.assertIs(kind_of(call, ALONE, [(0, 1)]), errors.InvalidLinks)

    def test_fifty_nine_links(self):
        club = [(0, "alone", 59)] + [(1, "brought", 0)] * 59
        asked = [(0, member) for member in range(1, 60)]
        self.assertIs(answer_of(known.can_hold, club, asked), True)
        self.assertEqual(answer_of(known.count_with, club, asked), 1)
        for more in (asked + [(0, 1)], asked + [(0, 1), (0, 2)], asked + [(0, 0)]):
            for call in QUESTIONS:
                self.assertIs(kind_of(call, club, more), errors.InvalidLinks)

    def test_a_list_that_is_changed_later(self):
        club, asked = list(EXAMPLE), [(0, 5)]
        rest, way = known.rest_club(club, asked), known.way_with(club, asked)
        club.append((4, "alone", 0))
        asked.clear()
        self.assertEqual((rest[0], len(rest), way), ((0, "alone", 1), 6, EXAMPLE_WAYS[3]))


class WrongInputsTest(unittest.TestCase):
    def test_invalid_club(self):
        for call in QUESTIONS:
            for club in INVALID_CLUBS:
                with self.subTest(call=call.__name__, club=club):
                    self.assertIs(kind_of(call, club, []), errors.InvalidClub)
                    self.assertIs(kind_of(call, club, None), errors.InvalidClub)

    def test_invalid_links(self):
        for call in QUESTIONS:
            for asked in NO_LINKS:
                with self.subTest(call=call.__name__, links=asked):
                    self.assertIs(kind_of(call, EXAMPLE, asked), errors.InvalidLinks)

    def test_invalid_links_ahead_of_impossible(self):
        for call in QUESTIONS:
            for club, _ in NOT_POSSIBLE:
                for asked in (None, (), [(1, 1)], [(0, 0)], [(0, 1), (0, 1)], [(0, True)], [(0, 9)], [(-1, 1)]):
                    with self.subTest(call=call.__name__, club=club, links=asked):
                        self.assertIs(kind_of(call, club, asked), errors.InvalidLinks)

    def test_impossible_with_what_conflict_of_tells(self):
        for call in QUESTIONS:
            for club, conflict in NOT_POSSIBLE:
                with self.subTest(call=call.__name__, club=club):
                    self.assertEqual(conflict_in(call, club, []), conflict)
                    self.assertEqual(conflict_in(call, club, [(0, 1)]), conflict)

    def test_impossible_ahead_of_no_link(self):
        club = [(0, "alone", 0), (1, "brought", 0), (2, "brought", 5)]
        self.assertEqual(conflict_in(known.way_with, club, [(0, 1), (0, 2)]), ("day", 1))
        self.assertEqual(conflict_in(known.rest_club, club, [(0, 1), (0, 2)]), ("day", 1))

    def test_by_name(self):
        self.assertIs(known.can_hold(links=[(0, 5)], club=EXAMPLE), True)
        self.assertEqual(known.span_paper(links=[(3, 4)], club=EXAMPLE), ("many", 3))
        self.assertEqual(known.count_with(links=[(0, 5)], club=EXAMPLE), 2)
        self.assertEqual(known.way_with(links=[(0, 5)], club=EXAMPLE), EXAMPLE_WAYS[3])
        self.assertEqual(known.rest_club(links=[], club=EXAMPLE), EXAMPLE)


if __name__ == "__main__":
    unittest.main()
