"""The document as a whole: its general rules for every function, and what the files tell of the same clubs."""

import importlib
import inspect
import random
import unittest
from copy import deepcopy
from fractions import Fraction

from broughtin import (
    alike, clubs, errors, families, groups, known, lines, links, reports, sets, shares, slips, texts, unsure, ways,
)
from broughtin.live import Door
from broughtin.session import session
from test_interface import INTERFACE
from trial import (
    EXAMPLE, EXAMPLE_WAYS, INVALID_CLUBS, NOT_POSSIBLE, TOP, added, conflict_in, fraction_of, kind_of, random_club,
    tried_clubs, wide_clubs,
)

# For each point of the document the files with tests of it.
TESTS = {
    1: ["test_document"], 2: ["test_document"], 3: ["test_document", "test_ways"], 4: ["test_document"],
    5: ["test_errors"], 6: ["test_clubs"], 7: ["test_ways"], 8: ["test_links"], 9: ["test_known"],
    10: ["test_shares"], 11: ["test_lines"], 12: ["test_sets"], 13: ["test_groups"], 14: ["test_families"],
    15: ["test_unsure"], 16: ["test_slips"], 17: ["test_reports"], 18: ["test_alike"], 19: ["test_live"],
    20: ["test_texts"], 21: ["test_session"],
}

DOUBTED = [(0, "alone", 2), (0, "unsure", 1), (1, "brought", 1), (1, "unsure", 0), (2, "unsure", 0), (3, "brought", 0)]
MEMBERS = [(day, came) for day, came, _ in EXAMPLE]
SHEET = (MEMBERS, [1, 3], [[1, 1, 0, 0], [2, 1, 1, 0, 0, 0]])
OTHER = [(0, "alone", 2), (0, "alone", 1), (1, "brought", 1), (2, "brought", 0), (2, "brought", 0), (3, "brought", 0)]

# Arguments by their names, and some that a file or a function takes instead.
VALUES = {
    "club": EXAMPLE, "thing": EXAMPLE, "day": 2, "bringer": 0, "member": 5, "above": 0, "below": 5, "one": 2, "two": 5,
    "index": 1, "way": EXAMPLE_WAYS[3], "draws": [0, 0, 0, 0], "links": [(0, 5), (1, 2)], "group": [2, 3],
    "bringers": [0, 2], "members": [3, 4, 5], "steps": 2, "number": 1, "size": 3, "sheet": SHEET, "other": OTHER,
    "rows": "enter 0 alone\nclub\nways",
}
SPECIAL = {
    (clubs, "shows_conflict"): {"thing": ("day", 1)}, (ways, "is_way"): {"thing": EXAMPLE_WAYS[0]},
    (reports, "is_sheet"): {"thing": SHEET}, (unsure, "is_unsure_club"): {"thing": DOUBTED},
    (texts, "read_club"): {"text": "0:2 1=0"}, (texts, "read_way"): {"text": "- 0"},
    (texts, "read_links"): {"text": "0>1 0>2"}, (groups, "group_way"): {"number": 2},
    (families, "family_sizes"): {"member": 0}, (families, "family_way"): {"member": 0},
    (families, "family_shares"): {"member": 0}, (families, "can_be_family"): {"member": 0},
    (families, "family_paper"): {"member": 0},
}


def arguments_of(module, name, names):
    """Valid arguments of a function, by their names."""
    values = dict(VALUES, **SPECIAL.get((module, name), {}))
    if module is unsure and "member" in names:
        values["member"] = 3
    if module is unsure and "club" in names:
        values["club"] = DOUBTED
    return {key: values[key] for key in names}


def all_calls():
    """Each function of the interface with valid arguments."""
    for module, functions in INTERFACE:
        for name, names in functions.items():
            yield getattr(module, name), arguments_of(module, name, names)


def lists_in(thing):
    """All lists in a value, itself included."""
    if isinstance(thing, (list, tuple)):
        inside = [found for part in thing for found in lists_in(part)]
        return [thing] + inside if isinstance(thing, list) else inside
    return []


class PointsTest(unittest.TestCase):
    def test_each_point_has_tests(self):
        self.assertEqual(sorted(TESTS), list(range(1, 22)))
        for names in TESTS.values():
            for name in names:
                module = importlib.import_module(name)
                cases = [case for _, case in inspect.getmembers(module, inspect.isclass)
                         if issubclass(case, unittest.TestCase)]
                self.assertTrue(any(word.startswith("test_") for case in cases for word in dir(case)), name)


class GeneralRulesTest(unittest.TestCase):
    def test_by_position_and_by_name(self):
        for call, named in all_calls():
            with self.subTest(call=call.__name__):
                told = call(*named.values())
                self.assertEqual(call(**named), told)
                self.assertEqual(call(**dict(reversed(named.items()))), told)

    def test_arguments_are_not_modified(self):
        for call, named in all_calls():
            with self.subTest(call=call.__name__):
                before = deepcopy(named)
                call(**named)
                self.assertEqual(repr(named), repr(before))

    def test_equal_calls_and_new_lists(self):
        for call, named in all_calls():
            with self.subTest(call=call.__name__):
                one, two = call(**named), call(**deepcopy(named))
                self.assertEqual(one, two)
                self.assertIs(type(one), type(two))
                found = lists_in(one) + lists_in(two) + lists_in(list(named.values()))[1:]
                self.assertEqual(len({id(thing) for thing in found}), len(found))

    def test_lists_that_are_changed_later(self):
        for call, named in all_calls():
            with self.subTest(call=call.__name__):
                passed = deepcopy(named)
                told = call(**passed)
                before = deepcopy(told)
                for thing in lists_in(list(passed.values())):
                    thing.clear()
                self.assertEqual(told, before)
                for thing in lists_in(told):
                    thing.clear()
                self.assertEqual(call(**named), before)

    def test_what_is_no_club(self):
        for call, named in all_calls():
            for name in ("club", "other"):
                if name in named:
                    for wrong in INVALID_CLUBS:
                        passed = dict(named, **{name: wrong})
                        self.assertIs(kind_of(call, **passed), errors.InvalidClub, (call.__name__, wrong))
                    for wrong in (Door(), [Door()], [(0, Door(), 0)], [(Door(), "alone", 0)]):
                        with self.assertRaises(errors.InvalidClub):
                            call(**dict(named, **{name: wrong}))

    def test_any_object_for_any_argument_that_may_be_one(self):
        deep = [EXAMPLE]
        for _ in range(18):
            deep = [deep]
        objects = [None, True, 0, "", "x", (), [], {}, {"a": [1]}, Door(), errors.NoLink("x"), deep, [[]] * 1999]
        for call, named in all_calls():
            for name in named:
                if name in ("way", "links", "draws", "group", "bringers", "members", "sheet", "thing"):
                    for thing in objects:
                        try:
                            told = call(**dict(named, **{name: thing}))
                        except errors.ClubError:
                            continue
                        if name == "thing":
                            self.assertIs(told, False, (call.__name__, thing))

    def test_booleans_as_integers(self):
        kinds = {
            "member": errors.InvalidMember, "bringer": errors.InvalidMember, "above": errors.InvalidMember,
            "below": errors.InvalidMember, "one": errors.InvalidMember, "two": errors.InvalidMember,
        }
        for call, named in all_calls():
            for name in named:
                if name in kinds:
                    for wrong in (True, False, -1, 60, TOP, -TOP):
                        passed = dict(named, **{name: wrong})
                        self.assertIs(kind_of(call, **passed), kinds[name], (call.__name__, name, wrong))

    def test_clubs_that_are_not_possible(self):
        # set_paper looks at the form of its group first, which no club here has.
        others = ["is_way", "write_club", "set_paper"]
        for call, named in all_calls():
            if "club" not in named or call.__name__ in others or inspect.getmodule(call) in (clubs, slips, unsure):
                continue
            for club, conflict in NOT_POSSIBLE:
                passed = dict(named, club=club)
                for name in ("bringer", "member", "above", "below", "one", "two"):
                    if name in passed:
                        passed[name] = 0
                for name in ("links", "group", "bringers", "members"):
                    if name in passed:
                        passed[name] = []
                self.assertEqual(conflict_in(call, **passed), conflict, call.__name__)


class DefinitionsTest(unittest.TestCase):
    def test_clubs_ways_and_fractions(self):
        self.assertIs(clubs.is_club(EXAMPLE), True)
        self.assertEqual([ways.nth_way(EXAMPLE, index) for index in range(6)], EXAMPLE_WAYS)
        self.assertEqual((shares.share(EXAMPLE, 3, 5), lines.descent_share(EXAMPLE, 0, 5)), ((0, 1), (2, 3)))
        self.assertEqual(families.family_shares(EXAMPLE, 0), [(2, 1, 3), (3, 2, 3)])
        self.assertEqual(links.closing_days(EXAMPLE), [3])
        self.assertEqual([sets.nth_set(EXAMPLE, 0, i) for i in range(5)], [[2, 3], [2, 4], [2, 5], [3, 4], [3, 5]])


class ResultsTest(unittest.TestCase):
    def test_possible_and_how_many(self):
        # R1 and R2, by slack and free.
        for club, found in tried_clubs():
            count = Fraction(1)
            for day in clubs.days_in(club):
                self.assertGreaterEqual(clubs.slack_at(club, day), 0)
                for slots in range(clubs.slack_at(club, day) + 1, clubs.free_at(club, day) + 1):
                    count *= slots
            for _, _, number in club:
                for slots in range(1, number + 1):
                    count /= slots
            self.assertEqual(count, len(found))

    def test_links_and_shares(self):
        # R3, R4 and R5 for single links.
        for club in wide_clubs():
            total = ways.count_ways(club)
            member = clubs.brought_in(club)[-1]
            for bringer in range(member):
                if club[bringer][0] < club[member][0]:
                    count = known.count_with(club, [(bringer, member)])
                    self.assertEqual(shares.share(club, bringer, member), fraction_of(count, total))
                    self.assertEqual(links.can_bring(club, bringer, member), count > 0)


class AgreementTest(unittest.TestCase):
    """What one file tells of a club agrees with what the others tell of it."""

    def clubs(self):
        chance = random.Random(171)
        some = [random_club(chance, size, size // 2, 0.8) for size in (5, 8, 11, 14) for _ in range(6)]
        return wide_clubs() + [club for club in some if clubs.brought_in(club)]

    def test_unsure_members_told_either_way(self):
        chance = random.Random(172)
        for club in self.clubs():
            for spot in chance.sample(range(len(club)), 3):
                doubted = [(row[0], "unsure", row[2]) if i == spot else row for i, row in enumerate(club)]
                self.assertEqual(unsure.count_all_ways(doubted), ways.count_ways(club))
                brought = club[spot][1] == "brought"
                self.assertIs(unsure.must_be_brought(doubted, spot), brought)
                self.assertEqual(unsure.came_share(doubted, spot), (1, 1) if brought else (0, 1))
                index = chance.randrange(ways.count_ways(club))
                self.assertEqual(unsure.nth_any_way(doubted, index), ways.nth_way(club, index))

    def test_slips_and_conflicts(self):
        chance = random.Random(173)
        for club in self.clubs():
            self.assertEqual(slips.one_number(club), [(i, row[2]) for i, row in enumerate(club)])
            spot = chance.randrange(len(club))
            day, came, number = club[spot]
            wrong = club[:spot] + [(day, came, number + 1)] + club[spot + 1:]
            self.assertEqual(clubs.conflict_of(wrong), ("left", 1))
            self.assertIn((spot, number), slips.one_number(wrong))
            for raised, lowered, least, _ in slips.two_numbers(club)[:9]:
                rows = [list(row) for row in club]
                rows[raised][2] += least
                rows[lowered][2] -= least
                self.assertIsNone(clubs.conflict_of([tuple(row) for row in rows]))
            for member in range(0, len(club), 6):
                told = slips.one_day(club, member)
                self.assertTrue(any(first <= club[member][0] <= last for first, last in told))

    def test_one_report_tells_the_club(self):
        for club in self.clubs():
            members = [(min(day, TOP - 1), came) for day, came, _ in club]
            sheet = (members, [members[-1][0]], [[row[2] for row in club]])
            count = ways.count_ways(club)
            self.assertEqual(reports.fewer_by(sheet), (count, count))
            self.assertIs(alike.same_ways(reports.stretch_clubs(sheet)[0], club), True)
            for member in range(0, len(club), 4):
                self.assertEqual(reports.report_bringers(sheet, member), links.bringers_of(club, member))

    def test_reports_and_groups_of_links(self):
        # A report between two days tells how many each one had brought up to then.
        for club in self.clubs():
            days = clubs.days_in(club)
            if len(days) < 3:
                continue
            way = ways.nth_way(club, ways.count_ways(club) // 2)
            half = days[len(days) // 2]
            early = [i for i, row in enumerate(club) if row[0] <= half]
            counters = [[sum(way[j] == i for j in early) for i in early], [row[2] for row in club]]
            sheet = ([row[:2] for row in club], [half, days[-1]], counters)
            count, whole = reports.fewer_by(sheet)
            self.assertEqual(whole, ways.count_ways(club))
            self.assertTrue(0 < count <= whole)
            for i, told in zip(early, counters[0]):
                later = [j for j in early if club[j][1] == "brought"]
                least, greatest = groups.group_range(club, [i], later)
                self.assertTrue(least <= told <= greatest)

    def test_plain_clubs_tell_the_same(self):
        for club in self.clubs():
            plain = alike.plain_club(club)
            self.assertIsNone(alike.parting_way(club, plain))
            self.assertEqual(ways.count_ways(plain), ways.count_ways(club))
            self.assertEqual(links.sure_links(plain), links.sure_links(club))
            for member in range(0, len(club), 5):
                self.assertEqual(shares.bringer_shares(plain, member), shares.bringer_shares(club, member))
                self.assertEqual(families.family_shares(plain, member), families.family_shares(club, member))
                self.assertEqual(lines.depth_shares(plain, member), lines.depth_shares(club, member))
                self.assertEqual(sets.count_sets(plain, member), sets.count_sets(club, member))
                self.assertEqual(lines.mean_below(plain, member), lines.mean_below(club, member))

    def test_parting_ways_are_told_apart(self):
        for club in self.clubs():
            for link in [(bringer, member) for member in clubs.brought_in(club)[-2:] for bringer in range(member)]:
                if links.can_bring(club, *link) and link not in links.sure_links(club):
                    rest = known.rest_club(club, [link])
                    word, way = alike.parting_way(club, rest)
                    here, there = (club, rest) if word == "first" else (rest, club)
                    self.assertIs(ways.is_way(here, way) and not ways.is_way(there, way), True)

    def test_doors_and_sessions(self):
        for club in self.clubs():
            door = Door()
            for day, came, _ in club:
                door.enter(day, came)
            for member, (_, _, number) in enumerate(club):
                door.tell(member, number)
            self.assertEqual((door.club, door.ways), (club, ways.count_ways(club)))
            way = ways.nth_way(club, 0)
            for member in clubs.brought_in(club)[:5]:
                door.ticket(way[member], member)
            self.assertEqual(door.ways, known.count_with(club, door.tickets))
            self.assertIs(known.can_hold(club, door.tickets), True)
            self.assertEqual(texts.read_club(texts.write_club(door.club)), club)
            self.assertEqual(texts.read_links(texts.write_links(door.tickets)), door.tickets)
            self.assertEqual(texts.read_way(texts.write_way(way)), way)

    def test_sessions_tell_what_the_functions_tell(self):
        for club in self.clubs():
            if len(club) > 33:
                continue
            rows = [f"enter {day} {came}" for day, came, _ in club]
            rows += [f"tell {i} {row[2]}" for i, row in enumerate(club)]
            member = clubs.brought_in(club)[-1]
            rows += ["club", "ways", "why", f"bringers {member}", f"share 0 {member}", f"below 0 {member}"]
            told = session("\n".join(rows)).split("\n")[2 * len(club):]
            bringers = " ".join(str(i) for i in links.bringers_of(club, member))
            part, steps = shares.share(club, 0, member), lines.step_range(club, 0, member)
            self.assertEqual(told[:4], [texts.write_club(club), str(ways.count_ways(club)), "none", bringers])
            self.assertEqual(told[4], f"{part[0]}/{part[1]}")
            self.assertEqual(told[5], f"{steps[0]}..{steps[1]}" if steps else "no")

    def test_shares_of_all_bringers_add_up(self):
        for club in self.clubs():
            for member in clubs.brought_in(club)[::4]:
                parts = [row[1:] for row in shares.bringer_shares(club, member)]
                self.assertEqual(added(parts), 1)


if __name__ == "__main__":
    unittest.main()
