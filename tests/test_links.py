import random
import unittest

from broughtin import errors, links
from trial import EXAMPLE, STRANGE, answer_of, error_of, links_by_trying, random_club, small_clubs

TOP = 10 ** 30
SHORT = [(0, "alone", 0), (2, "brought", 1), (4, "brought", 3)]
LOOSE = [(0, "alone", 2), (1, "brought", 0), (1, "alone", 2)]

# Each question of the file, with how many members' indices it is asked.
QUESTIONS = [
    (links.can_bring, 2), (links.bringers_of, 1), (links.brought_by, 1), (links.closing_days, 0),
    (links.link_paper, 2), (links.sure_links, 0),
]
INVALID_CLUBS = STRANGE + [
    [], tuple(EXAMPLE), [(0, "alone", True)], [(0, "alone", 0)] * 61, EXAMPLE + [(2, "alone", 0)],
]


def pairs(club):
    return [(i, j) for i in range(len(club)) for j in range(len(club))]


def closing_by_counting(club):
    days = sorted({row[0] for row in club})
    found = []
    for day in days[1:]:
        ahead = sum(row[2] for row in club if row[0] < day)
        taken = sum(row[1] == "brought" for row in club if row[0] <= day)
        if ahead == taken:
            found.append(day)
    return found


def reasons_by_counting(club, bringer, member):
    """All reasons that hold against a link, in the sequence in which they are told."""
    reasons = []
    if club[member][1] == "alone":
        reasons.append(("alone",))
    if club[bringer][2] == 0:
        reasons.append(("none",))
    if club[bringer][0] >= club[member][0]:
        reasons.append(("days",))
    spanned = [day for day in closing_by_counting(club) if club[bringer][0] < day < club[member][0]]
    reasons += [("closing", day) for day in spanned]
    return reasons


class ExampleTest(unittest.TestCase):
    def test_closing_day(self):
        self.assertEqual(answer_of(links.closing_days, EXAMPLE), [3])

    def test_who_can_have_brought_whom(self):
        found = [pair for pair in pairs(EXAMPLE) if answer_of(links.can_bring, EXAMPLE, *pair)]
        self.assertEqual(found, [(0, 2), (0, 3), (0, 4), (0, 5), (1, 2), (1, 3), (1, 4), (1, 5), (2, 4), (2, 5)])
        expected = [[], [], [0, 1], [0, 1], [0, 1, 2], [0, 1, 2]]
        self.assertEqual([answer_of(links.bringers_of, EXAMPLE, j) for j in range(6)], expected)
        expected = [[2, 3, 4, 5], [2, 3, 4, 5], [4, 5], [], [], []]
        self.assertEqual([answer_of(links.brought_by, EXAMPLE, i) for i in range(6)], expected)

    def test_sure_links(self):
        self.assertEqual(answer_of(links.sure_links, EXAMPLE), [])


class ClosingDaysTest(unittest.TestCase):
    def test_chain(self):
        club = [(0, "alone", 1), (1, "brought", 1), (2, "alone", 0), (3, "brought", 0), (4, "alone", 0)]
        self.assertEqual(answer_of(links.closing_days, club), [1, 3, 4])

    def test_never_the_first_day(self):
        self.assertEqual(answer_of(links.closing_days, [(0, "alone", 0)]), [])
        self.assertEqual(answer_of(links.closing_days, [(8, "alone", 0)] * 60), [])
        self.assertEqual(answer_of(links.closing_days, [(8, "alone", 0)] * 59 + [(TOP, "alone", 0)]), [TOP])

    def test_no_days_between_those_of_the_club(self):
        club = [(0, "alone", 1), (10, "brought", 1), (20, "brought", 0)]
        self.assertEqual(answer_of(links.closing_days, club), [10, 20])


class PaperTest(unittest.TestCase):
    def test_each_reason_alone(self):
        club = [(0, "alone", 1), (1, "brought", 2), (2, "brought", 0), (3, "brought", 0), (3, "alone", 0)]
        self.assertEqual(answer_of(links.link_paper, club, 1, 4), ("alone",))
        self.assertEqual(answer_of(links.link_paper, club, 2, 3), ("none",))
        self.assertEqual(answer_of(links.link_paper, club, 1, 1), ("days",))
        self.assertEqual(answer_of(links.link_paper, club, 0, 2), ("closing", 1))
        self.assertIsNone(answer_of(links.link_paper, club, 0, 1))
        self.assertIsNone(answer_of(links.link_paper, club, 1, 3))

    def test_first_of_several_reasons(self):
        club = [(0, "alone", 1), (0, "alone", 0), (1, "brought", 2)]
        club += [(2, "brought", 0), (3, "brought", 0), (3, "alone", 0)]
        self.assertEqual(answer_of(links.link_paper, club, 5, 5), ("alone",))
        self.assertEqual(answer_of(links.link_paper, club, 5, 0), ("alone",))
        self.assertEqual(answer_of(links.link_paper, club, 2, 0), ("alone",))
        self.assertEqual(answer_of(links.link_paper, club, 0, 5), ("alone",))
        self.assertEqual(answer_of(links.link_paper, club, 1, 5), ("alone",))
        self.assertEqual(answer_of(links.link_paper, club, 4, 3), ("none",))
        self.assertEqual(answer_of(links.link_paper, club, 1, 4), ("none",))

    def test_least_closing_day_strictly_between(self):
        club = [(0, "alone", 1), (1, "brought", 1), (2, "brought", 1), (3, "brought", 1), (4, "brought", 0)]
        self.assertEqual(answer_of(links.closing_days, club), [1, 2, 3, 4])
        self.assertEqual(answer_of(links.link_paper, club, 0, 4), ("closing", 1))
        self.assertEqual(answer_of(links.link_paper, club, 1, 4), ("closing", 2))
        self.assertEqual(answer_of(links.link_paper, club, 2, 4), ("closing", 3))
        self.assertIsNone(answer_of(links.link_paper, club, 3, 4))

    def test_great_days(self):
        club = [(0, "alone", 1), (TOP - 1, "brought", 1), (TOP, "brought", 0)]
        self.assertEqual(answer_of(links.link_paper, club, 0, 2), ("closing", TOP - 1))
        self.assertIsNone(answer_of(links.link_paper, club, 1, 2))


class SureLinksTest(unittest.TestCase):
    def test_all_are_sure(self):
        club = [(0, "alone", 1), (0, "alone", 0), (1, "brought", 2), (2, "brought", 0), (2, "brought", 0)]
        self.assertEqual(answer_of(links.sure_links, club), [(0, 2), (2, 3), (2, 4)])

    def test_one_bringer_with_several_slots(self):
        club = [(0, "alone", 2), (1, "brought", 0), (2, "brought", 0)]
        self.assertEqual(answer_of(links.sure_links, club), [(0, 1), (0, 2)])

    def test_some_are_sure(self):
        club = [(0, "alone", 2), (1, "brought", 1), (2, "brought", 0), (3, "brought", 1), (4, "brought", 0)]
        self.assertEqual(answer_of(links.sure_links, club), [(0, 1), (3, 4)])

    def test_none(self):
        self.assertEqual(answer_of(links.sure_links, [(0, "alone", 0)] * 60), [])


class AgainstAllWaysTest(unittest.TestCase):
    def hold(self, club):
        counts, ways = links_by_trying(club)
        if not ways:
            return
        for pair in pairs(club):
            self.assertIs(links.can_bring(club, *pair), pair in counts, (club, pair))
            reasons = reasons_by_counting(club, *pair)
            self.assertEqual(links.link_paper(club, *pair), reasons[0] if reasons else None, (club, pair))
            self.assertEqual(reasons == [], pair in counts, (club, pair))
        for i in range(len(club)):
            self.assertEqual(links.bringers_of(club, i), sorted(b for b, m in counts if m == i), club)
            self.assertEqual(links.brought_by(club, i), sorted(m for b, m in counts if b == i), club)
        self.assertEqual(links.sure_links(club), sorted(pair for pair in counts if counts[pair] == ways), club)
        self.assertEqual(links.closing_days(club), closing_by_counting(club), club)

    def test_small_clubs(self):
        for size in (1, 2, 3, 4):
            for club in small_clubs(size):
                self.hold(club)

    def test_larger_clubs(self):
        chance = random.Random(11)
        for size in (4, 5, 6, 7):
            for _ in range(150):
                self.hold(random_club(chance, size))

    def test_sixty_members(self):
        club = random_club(random.Random(3), 60)
        for member in (0, 1, 30, 58, 59):
            can = [i for i in range(60) if links.can_bring(club, i, member)]
            self.assertEqual(links.bringers_of(club, member), can)
            can = [j for j in range(60) if links.can_bring(club, member, j)]
            self.assertEqual(links.brought_by(club, member), can)
        sure = [(b[0], j) for j in range(60) for b in [links.bringers_of(club, j)] if len(b) == 1]
        self.assertEqual(links.sure_links(club), sorted(sure))


class WrongInputsTest(unittest.TestCase):
    def kind(self, call, *args, **named):
        return type(error_of(call, *args, **named))

    def test_invalid_club(self):
        for call, many in QUESTIONS:
            for club in INVALID_CLUBS:
                with self.subTest(call=call.__name__, club=club):
                    self.assertIs(self.kind(call, club, *[0] * many), errors.InvalidClub)

    def test_invalid_member(self):
        for wrong in (-1, 6, 7, 60, TOP, -TOP, True, False):
            for call in (links.can_bring, links.link_paper):
                self.assertIs(self.kind(call, EXAMPLE, wrong, 2), errors.InvalidMember)
                self.assertIs(self.kind(call, EXAMPLE, 0, wrong), errors.InvalidMember)
                self.assertIs(self.kind(call, EXAMPLE, wrong, wrong), errors.InvalidMember)
            self.assertIs(self.kind(links.bringers_of, EXAMPLE, wrong), errors.InvalidMember)
            self.assertIs(self.kind(links.brought_by, EXAMPLE, wrong), errors.InvalidMember)

    def test_impossible_with_what_conflict_of_tells(self):
        for call, many in QUESTIONS:
            for club, told in ((SHORT, ("day", 2)), (LOOSE, ("left", 3)), ([(TOP, "brought", 1)], ("day", TOP))):
                with self.subTest(call=call.__name__, club=club):
                    error = error_of(call, club, *[0] * many)
                    self.assertIs(type(error), errors.Impossible)
                    self.assertEqual((error.word, error.number), told)

    def test_several_wrong_at_once(self):
        for call, many in QUESTIONS:
            if many:
                self.assertIs(self.kind(call, [], *[-1] * many), errors.InvalidClub)
                self.assertIs(self.kind(call, tuple(SHORT), *[9] * many), errors.InvalidClub)
                self.assertIs(self.kind(call, SHORT, *[3] * many), errors.InvalidMember)
        for call in (links.can_bring, links.link_paper):
            self.assertIs(self.kind(call, SHORT, 3, 0), errors.InvalidMember)
            self.assertIs(self.kind(call, SHORT, 0, -1), errors.InvalidMember)

    def test_by_name(self):
        self.assertIs(links.can_bring(member=2, bringer=0, club=EXAMPLE), True)
        self.assertIs(links.can_bring(member=0, bringer=2, club=EXAMPLE), False)
        self.assertEqual(links.link_paper(member=0, bringer=2, club=EXAMPLE), ("alone",))
        self.assertEqual(links.bringers_of(member=2, club=EXAMPLE), [0, 1])
        self.assertEqual(links.brought_by(bringer=2, club=EXAMPLE), [4, 5])
        self.assertEqual(links.closing_days(club=EXAMPLE), [3])
        self.assertEqual(links.sure_links(club=EXAMPLE), [])

    def test_returned_lists_are_of_the_caller(self):
        club = list(EXAMPLE)
        answers = [links.bringers_of(club, 5), links.brought_by(club, 0)]
        answers += [links.closing_days(club), links.sure_links(club)]
        club.append((4, "alone", 0))
        self.assertEqual(answers, [[0, 1, 2], [2, 3, 4, 5], [3], []])
        self.assertEqual(links.closing_days(club), [3, 4])


if __name__ == "__main__":
    unittest.main()
