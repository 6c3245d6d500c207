"""The door of a club, at which it is told bit by bit who comes in."""

from broughtin.clubs import CAME_WORDS, LIMIT, MOST_MEMBERS, check_day, check_member, conflict_of, is_whole
from broughtin.errors import (
    InvalidDay, InvalidIndex, InvalidLinks, InvalidMember, InvalidName, InvalidNumber, NothingToUndo,
)
from broughtin.known import is_link, ways_with


class Door:
    """A club that is told bit by bit, with known links, its tickets; each call can be undone.

    The lists of members and of tickets are never changed, only replaced: what
    was before each call is kept, also by twins.
    """

    def __init__(self):
        self._rows = []
        self._known = []
        self._past = []

    def __len__(self):
        return len(self._past)

    def _change(self, rows, known):
        """Go on with these lists, and keep the ones before."""
        self._past.append((self._rows, self._known))
        self._rows = rows
        self._known = known

    def enter(self, day, came):
        """A new member with number 0 comes in, behind all others."""
        check_day(day)
        if self._rows and day < self._rows[-1][0]:
            raise InvalidDay("nobody joins on a lesser day than the last one")
        if came not in CAME_WORDS:
            raise InvalidName("members come alone or brought")
        if len(self._rows) == MOST_MEMBERS:
            raise InvalidMember("the club is full")
        self._change(self._rows + [(day, came, 0)], self._known)

    def tell(self, member, number):
        """The number of a member is this now."""
        check_member(self._rows, member)
        if not is_whole(number, LIMIT):
            raise InvalidNumber("this is no number from 0 to 10 ** 30")
        day, came, _ = self._rows[member]
        self._change(self._rows[:member] + [(day, came, number)] + self._rows[member + 1:], self._known)

    def ticket(self, bringer, member):
        """It is known now that the one brought the other."""
        check_member(self._rows, bringer)
        check_member(self._rows, member)
        link = (bringer, member)
        if not is_link(self._rows, link):
            raise InvalidLinks("a brought member has a bringer with a lesser day")
        if member in [known[1] for known in self._known]:
            raise InvalidLinks("the member has a ticket")
        self._change(self._rows, self._known + [link])

    def undo(self):
        """Undo the last call that holds."""
        if not self._past:
            raise NothingToUndo("no call holds")
        self.undo_to(len(self._past) - 1)

    def mark(self):
        """How many calls hold."""
        return len(self._past)

    def undo_to(self, index):
        """Undo calls until so many are left."""
        if not is_whole(index, len(self._past)):
            raise InvalidIndex("not so many calls hold")
        if index < len(self._past):
            self._rows, self._known = self._past[index]
            self._past = self._past[:index]

    def twin(self):
        """An independent copy."""
        door = Door()
        door._rows = self._rows
        door._known = self._known
        door._past = list(self._past)
        return door

    @property
    def club(self):
        """The club as it is told now."""
        return list(self._rows)

    @property
    def tickets(self):
        """The known links, ascending."""
        return sorted(self._known)

    @property
    def ways(self):
        """How many ways of the club have all tickets; 0 without members and for a club that is not possible."""
        if not self._rows or conflict_of(self._rows) is not None:
            return 0
        return ways_with(self._rows, self._known)
