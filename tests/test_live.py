import random
import unittest
from copy import deepcopy

from broughtin import clubs, errors, known, links, ways
from broughtin.live import Door
from trial import EXAMPLE, TOP, kind_of, ways_by_trying, wide_clubs

NO_DAYS = [-1, TOP + 1, -TOP, 10 * TOP, True, False]
NO_NUMBERS = [-1, TOP + 1, -TOP, True, False]
NO_WORDS = ["", "unsure", "Alone", "brought ", " alone", "?", "alone brought"]


def state_of(door):
    """All that a door tells."""
    return (door.club, door.tickets, door.ways, len(door), door.mark())


def replay(calls):
    """The club and the tickets after a list of calls, told by hand."""
    club, tickets = [], []
    for name, one, two in calls:
        if name == "enter":
            club.append((one, two, 0))
        elif name == "tell":
            club[one] = (club[one][0], club[one][1], two)
        else:
            tickets.append((one, two))
    return club, sorted(tickets)


def ways_with(club, tickets):
    """How many ways have all tickets, each way tried."""
    if not club:
        return 0
    return sum(all(way[j] == i for i, j in tickets) for way in ways_by_trying(club))


def counted(club, tickets):
    """How many ways have all tickets, as the functions tell."""
    if not club or clubs.conflict_of(club) is not None:
        return 0
    return known.count_with(club, tickets)


def door_of(club, tickets=()):
    """A door at which a club and links were told."""
    door = Door()
    for day, came, _ in club:
        door.enter(day, came)
    for member, (_, _, number) in enumerate(club):
        if number:
            door.tell(member, number)
    for bringer, member in tickets:
        door.ticket(bringer, member)
    return door


def some_call(chance, club, tickets, most):
    """A call that holds, for a club of up to so many members."""
    pairs = [(i, j) for j in range(len(club)) for i in range(j)
             if club[j][1] == "brought" and club[i][0] < club[j][0] and j not in [link[1] for link in tickets]]
    if chance.random() < 0.7:
        pairs = [pair for pair in pairs if counted(club, tickets + [pair]) > 0]
    kind = chance.choice(("enter", "enter", "tell", "tell", "ticket"))
    if kind == "ticket" and pairs:
        return ("ticket", *chance.choice(pairs))
    if kind == "enter" and len(club) < most or not club:
        day = (club[-1][0] if club else 0) + chance.choice((0, 1, 1, 4))
        return ("enter", day, chance.choice(("alone", "brought", "brought")))
    member = chance.randrange(len(club))
    # Often the number with which all numbers together are as many as the brought members.
    left = sum(row[2] for row in club) - sum(row[1] == "brought" for row in club)
    return ("tell", member, max(0, club[member][2] - left) if chance.random() < 0.6 else chance.choice((0, 1, 2)))


class FirstStepsTest(unittest.TestCase):
    def test_a_new_door(self):
        door = Door()
        self.assertEqual(state_of(door), ([], [], 0, 0, 0))
        self.assertIsInstance(door, Door)

    def test_example(self):
        door = door_of(EXAMPLE)
        self.assertEqual(state_of(door), (EXAMPLE, [], 6, 9, 9))
        door.ticket(0, 5)
        self.assertEqual((door.tickets, door.ways), ([(0, 5)], 2))
        door.ticket(0, 4)
        self.assertEqual((door.tickets, door.ways), ([(0, 4), (0, 5)], 0))
        door.undo()
        self.assertEqual((door.tickets, door.ways), ([(0, 5)], 2))

    def test_calls_return_none(self):
        door = Door()
        for call in (
            lambda: door.enter(0, "alone"), lambda: door.enter(TOP, "brought"), lambda: door.tell(0, 1),
            lambda: door.ticket(0, 1), lambda: door.undo(), lambda: door.undo_to(1), lambda: door.undo_to(1),
        ):
            self.assertIsNone(call())

    def test_by_name(self):
        door = Door()
        door.enter(came="alone", day=0)
        door.enter(day=1, came="brought")
        door.tell(number=1, member=0)
        door.ticket(member=1, bringer=0)
        self.assertEqual(state_of(door), ([(0, "alone", 1), (1, "brought", 0)], [(0, 1)], 1, 4, 4))
        door.undo_to(index=2)
        self.assertEqual(state_of(door), ([(0, "alone", 0), (1, "brought", 0)], [], 0, 2, 2))

    def test_compared_by_identity(self):
        one, two = Door(), Door()
        self.assertNotEqual(one, two)
        self.assertNotEqual(one, one.twin())
        self.assertEqual(one, one)
        self.assertEqual(len({one, two, one}), 2)

    def test_methods_and_properties_stand_in_the_class(self):
        for name in ("enter", "tell", "ticket", "undo", "mark", "undo_to", "twin", "__len__"):
            self.assertTrue(callable(vars(Door)[name]), name)
        for name in ("club", "tickets", "ways"):
            self.assertIsInstance(vars(Door)[name], property, name)
        self.assertNotIn("__eq__", vars(Door))

    def test_returned_lists_are_new(self):
        door = door_of(EXAMPLE, [(0, 5)])
        for name in ("club", "tickets"):
            one, two = getattr(door, name), getattr(door, name)
            self.assertIsNot(one, two)
            one.append("changed")
            self.assertEqual(getattr(door, name), two)
        told = door.club
        door.tell(0, 0)
        self.assertEqual(told, EXAMPLE)


class CallByCallTest(unittest.TestCase):
    def hold(self, door, calls, count):
        club, tickets = replay(calls)
        case = (club, tickets)
        self.assertEqual(door.club, club, case)
        self.assertEqual(door.tickets, tickets, case)
        self.assertEqual(door.ways, count(club, tickets), case)
        self.assertEqual((len(door), door.mark()), (len(calls), len(calls)), case)

    def walk(self, chance, steps, most, count):
        """Calls, undone calls and twins, with a list of the calls that hold."""
        door, calls = Door(), []
        for _ in range(steps):
            kind = chance.random()
            if kind < 0.75 or not calls:
                name, one, two = some_call(chance, *replay(calls), most)
                self.assertIsNone(getattr(door, name)(one, two))
                calls = calls + [(name, one, two)]
            elif kind < 0.88:
                self.assertIsNone(door.undo())
                calls = calls[:-1]
            elif kind < 0.94:
                left = chance.randint(max(0, len(calls) - 6), len(calls))
                self.assertIsNone(door.undo_to(left))
                calls = calls[:left]
            else:
                other = door.twin()
                other.enter(TOP, "alone")
                self.assertEqual(door.club, replay(calls)[0])
                door.enter(TOP, "brought")
                self.assertEqual(other.club[-1], (TOP, "alone", 0))
                door.undo()
                other.undo()
                self.hold(door, calls, count)
                door = other
            self.hold(door, calls, count)
        return door, calls

    def test_small_clubs(self):
        chance = random.Random(141)
        seen = 0
        for _ in range(150):
            door, calls = self.walk(chance, 40, 6, ways_with)
            while calls:
                seen += door.ways > 0 and door.tickets != []
                calls.pop()
                door.undo()
                self.hold(door, calls, ways_with)
            self.assertIs(kind_of(door.undo), errors.NothingToUndo)
        self.assertGreater(seen, 20)

    def test_larger_clubs(self):
        chance = random.Random(142)
        for _ in range(6):
            self.walk(chance, 200, 30, counted)

    def test_a_possible_club_with_its_tickets(self):
        chance = random.Random(143)
        for club in wide_clubs():
            way = ways.nth_way(club, chance.randrange(ways.count_ways(club)))
            door = door_of(club)
            self.assertEqual((door.club, door.ways), (club, ways.count_ways(club)))
            told = []
            pairs = [(way[j], j) for j in clubs.brought_in(club)]
            chance.shuffle(pairs)
            for bringer, member in pairs:
                door.ticket(bringer, member)
                told.append((bringer, member))
                self.assertEqual(door.tickets, sorted(told))
                self.assertEqual(door.ways, known.count_with(club, told))
            self.assertEqual(door.ways, 1)

    def test_a_number_that_was_told_twice(self):
        door = Door()
        door.enter(0, "alone")
        for number in (3, 1, 1, TOP):
            door.tell(0, number)
        self.assertEqual((door.club, len(door)), ([(0, "alone", TOP)], 5))
        told = []
        while len(door):
            door.undo()
            told.append(door.club)
        self.assertEqual(told, [[(0, "alone", 1)], [(0, "alone", 1)], [(0, "alone", 3)], [(0, "alone", 0)], []])

    def test_a_ticket_that_is_undone(self):
        door = door_of([(0, "alone", 1), (0, "alone", 1), (1, "brought", 0), (2, "brought", 0)])
        door.ticket(1, 3)
        self.assertEqual((door.tickets, door.ways), ([(1, 3)], 1))
        door.undo()
        self.assertEqual((door.tickets, door.ways), ([], 2))
        door.ticket(1, 2)
        door.ticket(0, 3)
        self.assertEqual((door.tickets, door.ways), ([(0, 3), (1, 2)], 1))
        door.undo_to(door.mark() - 2)
        self.assertEqual(door.tickets, [])


class TicketsThatStandTest(unittest.TestCase):
    def test_a_bringer_with_number_0(self):
        door = door_of([(0, "alone", 0), (0, "alone", 1), (1, "brought", 0)])
        self.assertEqual(door.ways, 1)
        door.ticket(0, 2)
        self.assertEqual((door.tickets, door.ways), ([(0, 2)], 0))
        door.tell(0, 1)
        self.assertEqual(door.ways, 0)
        door.tell(1, 0)
        self.assertEqual(door.ways, 1)

    def test_too_many_tickets_of_one(self):
        door = door_of([(0, "alone", 1), (0, "alone", 1), (1, "brought", 0), (1, "brought", 0)])
        door.ticket(0, 2)
        door.ticket(0, 3)
        self.assertEqual((door.tickets, door.ways), ([(0, 2), (0, 3)], 0))
        door.tell(0, 2)
        door.tell(1, 0)
        self.assertEqual(door.ways, 1)

    def test_the_number_falls_behind_the_ticket(self):
        door = door_of([(0, "alone", 1), (1, "brought", 0)], [(0, 1)])
        self.assertEqual(door.ways, 1)
        door.tell(0, 0)
        self.assertEqual((door.tickets, door.ways), ([(0, 1)], 0))

    def test_a_ticket_across_a_closing_day(self):
        door = door_of([(0, "alone", 1), (1, "brought", 1), (2, "brought", 0)], [(0, 2)])
        self.assertIs(links.can_bring(door.club, 0, 2), False)
        self.assertEqual(door.ways, 0)

    def test_a_club_that_is_not_possible(self):
        door = Door()
        door.enter(0, "brought")
        self.assertEqual(door.ways, 0)
        door = door_of([(0, "alone", 5)])
        self.assertEqual(door.ways, 0)
        door = door_of([(0, "alone", TOP), (1, "brought", 0)], [(0, 1)])
        self.assertEqual(door.ways, 0)


class TwinTest(unittest.TestCase):
    def test_both_go_their_own_way(self):
        door = door_of(EXAMPLE, [(0, 5)])
        other = door.twin()
        self.assertIsInstance(other, Door)
        self.assertIsNot(other, door)
        self.assertEqual(state_of(other), state_of(door))
        door.undo_to(2)
        other.tell(1, 0)
        other.enter(9, "alone")
        third = other.twin()
        third.undo()
        self.assertEqual(door.club, [(0, "alone", 0), (0, "alone", 0)])
        self.assertEqual(other.club, EXAMPLE[:1] + [(0, "alone", 0)] + EXAMPLE[2:] + [(9, "alone", 0)])
        self.assertEqual((other.tickets, len(other), len(door), len(third)), ([(0, 5)], 12, 2, 11))

    def test_a_twin_can_undo_all(self):
        door = door_of(EXAMPLE, [(0, 5)])
        other = door.twin()
        while other.mark():
            other.undo()
        self.assertEqual(state_of(other), ([], [], 0, 0, 0))
        self.assertEqual(state_of(door), (EXAMPLE, [(0, 5)], 2, 10, 10))
        other.enter(3, "alone")
        door.undo_to(0)
        self.assertEqual((other.club, door.club), ([(3, "alone", 0)], []))


class WrongInputsTest(unittest.TestCase):
    def hold(self, door, kind, name, *args):
        """The call raises just this error, and changes nothing."""
        before = deepcopy(state_of(door))
        self.assertIs(kind_of(getattr(door, name), *args), kind, (name, args))
        self.assertEqual(state_of(door), before, (name, args))

    def test_days(self):
        door = Door()
        for day in NO_DAYS:
            self.hold(door, errors.InvalidDay, "enter", day, "alone")
        door.enter(7, "alone")
        for day in NO_DAYS + [0, 1, 6]:
            self.hold(door, errors.InvalidDay, "enter", day, "brought")
        door.enter(7, "brought")
        door.enter(TOP, "brought")
        self.hold(door, errors.InvalidDay, "enter", TOP - 1, "brought")
        self.hold(door, errors.InvalidDay, "enter", TOP + 1, "brought")
        door.enter(TOP, "alone")
        door.undo_to(1)
        door.enter(8, "alone")
        self.assertEqual([row[0] for row in door.club], [7, 8])

    def test_names(self):
        door = Door()
        for came in NO_WORDS:
            self.hold(door, errors.InvalidName, "enter", 0, came)
        door.enter(5, "alone")
        for came in NO_WORDS:
            self.hold(door, errors.InvalidName, "enter", 5, came)
            self.hold(door, errors.InvalidDay, "enter", 4, came)
            self.hold(door, errors.InvalidDay, "enter", -1, came)

    def test_a_61st_member(self):
        door = door_of([(5, "alone", 0)] * 60)
        self.assertEqual(len(door.club), 60)
        self.hold(door, errors.InvalidMember, "enter", 5, "alone")
        self.hold(door, errors.InvalidMember, "enter", TOP, "brought")
        self.hold(door, errors.InvalidName, "enter", 5, "unsure")
        self.hold(door, errors.InvalidDay, "enter", 4, "alone")
        self.hold(door, errors.InvalidDay, "enter", TOP + 1, "unsure")
        door.undo()
        door.enter(6, "brought")
        self.hold(door, errors.InvalidMember, "enter", 6, "alone")

    def test_members_and_numbers(self):
        door = Door()
        self.hold(door, errors.InvalidMember, "tell", 0, 0)
        self.hold(door, errors.InvalidMember, "tell", 0, -1)
        self.hold(door, errors.InvalidMember, "ticket", 0, 0)
        door = door_of(EXAMPLE)
        for member in (-1, 6, 60, TOP, -TOP, True, False):
            self.hold(door, errors.InvalidMember, "tell", member, 0)
            self.hold(door, errors.InvalidMember, "tell", member, -1)
            self.hold(door, errors.InvalidMember, "ticket", member, 5)
            self.hold(door, errors.InvalidMember, "ticket", 0, member)
            self.hold(door, errors.InvalidMember, "ticket", 5, member)
        for number in NO_NUMBERS:
            self.hold(door, errors.InvalidNumber, "tell", 0, number)
        door.tell(5, TOP)
        self.assertEqual(door.club[5], (3, "brought", TOP))
        door.tell(5, 0)

    def test_tickets(self):
        door = door_of(EXAMPLE)
        # Nobody brought those who came alone; the same day, a later day and oneself are no bringer's.
        for link in ((0, 1), (0, 0), (2, 0), (2, 3), (3, 2), (4, 2), (5, 4), (4, 4), (5, 5)):
            self.hold(door, errors.InvalidLinks, "ticket", *link)
        door.ticket(0, 4)
        for bringer in (0, 1, 2, 3):
            self.hold(door, errors.InvalidLinks, "ticket", bringer, 4)
        self.hold(door, errors.InvalidMember, "ticket", 6, 4)
        self.hold(door, errors.InvalidMember, "ticket", 0, -1)
        door.undo()
        door.ticket(3, 4)
        self.assertEqual(door.tickets, [(3, 4)])

    def test_a_ticket_among_members_of_one_day(self):
        door = Door()
        for came in ("alone", "brought", "brought"):
            door.enter(3, came)
        for link in ((0, 1), (0, 2), (1, 2), (2, 1)):
            self.hold(door, errors.InvalidLinks, "ticket", *link)

    def test_nothing_to_undo(self):
        door = Door()
        self.hold(door, errors.NothingToUndo, "undo")
        door.enter(0, "alone")
        door.undo()
        self.hold(door, errors.NothingToUndo, "undo")

    def test_undo_to(self):
        door = Door()
        for index in (-1, 1, 2, TOP, True, False):
            self.hold(door, errors.InvalidIndex, "undo_to", index)
        door.undo_to(0)
        door = door_of(EXAMPLE)
        for index in (-1, -9, 10, 11, TOP, True, False):
            self.hold(door, errors.InvalidIndex, "undo_to", index)
        before = state_of(door)
        door.undo_to(len(door))
        self.assertEqual(state_of(door), before)
        door.undo_to(6)
        self.assertEqual(door.club, [(*row[:2], 0) for row in EXAMPLE])
        self.hold(door, errors.InvalidIndex, "undo_to", 7)
        door.undo_to(0)
        self.assertEqual(state_of(door), ([], [], 0, 0, 0))

    def test_calls_that_raise_are_not_undone(self):
        door = door_of([(2, "alone", 0)])
        kind_of(door.enter, 1, "alone")
        kind_of(door.tell, 0, -1)
        kind_of(door.ticket, 0, 0)
        door.undo()
        self.assertEqual(state_of(door), ([], [], 0, 0, 0))


if __name__ == "__main__":
    unittest.main()
