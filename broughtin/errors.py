"""The errors of the package: one base class, and a class for each kind of failure."""


class ClubError(ValueError):
    """The base of all errors that the package raises."""


class InvalidClub(ClubError):
    """What was passed as a club is none."""


class InvalidWay(ClubError):
    """What was passed as a way is none of the club."""


class InvalidLinks(ClubError):
    """What was passed as links has not their form."""


class InvalidDraws(ClubError):
    """What was passed as draws does not fit the club."""


class InvalidGroup(ClubError):
    """What was passed as a group of members is none."""


class InvalidSheet(ClubError):
    """What was passed as a sheet is none."""


class InvalidMember(ClubError):
    """An integer that is no member's index."""


class InvalidDay(ClubError):
    """A day that cannot stand there."""


class InvalidName(ClubError):
    """A word for how a member came that is none of those."""


class InvalidNumber(ClubError):
    """A number that cannot stand there."""


class InvalidIndex(ClubError):
    """An index of what there is not."""


class NoLink(ClubError):
    """No way has the links or the line that was asked for."""


class NothingToUndo(ClubError):
    """There is no call left to undo."""


class Impossible(ClubError):
    """The club has no way; word and number are what conflict_of tells."""

    def __init__(self, word, number):
        self.word = word
        self.number = number


class InvalidText(ClubError):
    """A text that cannot be read; place is the number of the first wrong word."""

    def __init__(self, place):
        self.place = place
