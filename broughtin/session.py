"""Sessions: a door that is told and asked line by line.

Each first word of a line has a function that takes the door and a list of
what the other words tell, and returns the answer.
"""

from broughtin.clubs import conflict_of
from broughtin.errors import (
    Impossible, InvalidClub, InvalidDay, InvalidIndex, InvalidLinks, InvalidMember, InvalidName, InvalidNumber,
    NothingToUndo,
)
from broughtin.lines import step_range
from broughtin.links import bringers_of
from broughtin.live import Door
from broughtin.shares import share
from broughtin.texts import is_number, write_club, write_links

DONE = "ok"
UNKNOWN = "?"


def answer_enter(door, told):
    """A new member."""
    door.enter(told[0], told[1])
    return DONE


def answer_tell(door, told):
    """The number of a member."""
    door.tell(told[0], told[1])
    return DONE


def answer_ticket(door, told):
    """A known link."""
    door.ticket(told[0], told[1])
    return DONE


def answer_undo(door, told):
    """The last call undone."""
    door.undo()
    return DONE


def answer_back(door, told):
    """Calls undone until so many are left."""
    door.undo_to(told[0])
    return DONE


def answer_club(door, told):
    """The text of the club."""
    club = door.club
    return write_club(club) if club else "-"


def answer_tickets(door, told):
    """The text of the tickets."""
    return write_links(door.tickets)


def answer_ways(door, told):
    """How many ways have all tickets."""
    return str(door.ways)


def answer_why(door, told):
    """The conflict of the club."""
    conflict = conflict_of(door.club)
    return "none" if conflict is None else f"{conflict[0]} {conflict[1]}"


def answer_bringers(door, told):
    """Those who can have brought a member."""
    bringers = bringers_of(door.club, told[0])
    return " ".join([str(bringer) for bringer in bringers]) if bringers else "-"


def answer_share(door, told):
    """The share of a link."""
    top, bottom = share(door.club, told[0], told[1])
    return f"{top}/{bottom}"


def answer_below(door, told):
    """The numbers of steps by which the second one can be below the first one."""
    steps = step_range(door.club, told[0], told[1])
    return "no" if steps is None else f"{steps[0]}..{steps[1]}"


ACTIONS = {
    "enter": answer_enter, "tell": answer_tell, "ticket": answer_ticket, "undo": answer_undo, "back": answer_back,
    "club": answer_club, "tickets": answer_tickets, "ways": answer_ways, "why": answer_why,
    "bringers": answer_bringers, "share": answer_share, "below": answer_below,
}
# What stands behind the first word: a letter for each word, N for a number and W for any word.
FORMS = {
    "enter": "NW", "tell": "NN", "ticket": "NN", "undo": "", "back": "N", "club": "", "tickets": "", "ways": "",
    "why": "", "bringers": "N", "share": "NN", "below": "NN",
}


def told_by(form, words):
    """What words of this form tell; None if they have another form."""
    if len(words) != len(form):
        return None
    told = []
    for kind, word in zip(form, words):
        if kind == "N" and not is_number(word):
            return None
        told.append(int(word) if kind == "N" else word)
    return told


def answer_of(door, word, told):
    """The answer to a line of the right form; the name of the class for an error."""
    action = ACTIONS[word]
    try:
        return action(door, told)
    except InvalidClub:
        return "InvalidClub"
    except InvalidLinks:
        return "InvalidLinks"
    except InvalidMember:
        return "InvalidMember"
    except InvalidDay:
        return "InvalidDay"
    except InvalidName:
        return "InvalidName"
    except InvalidNumber:
        return "InvalidNumber"
    except InvalidIndex:
        return "InvalidIndex"
    except NothingToUndo:
        return "NothingToUndo"
    except Impossible:
        return "Impossible"


def answer_to(door, line):
    """The answer of a door to any line but one for a new door."""
    words = line.split(" ")
    if "" in words or words[0] not in FORMS:
        return UNKNOWN
    told = told_by(FORMS[words[0]], words[1:])
    return UNKNOWN if told is None else answer_of(door, words[0], told)


def session(rows):
    """The answers to the lines of a string, one line for each."""
    door = Door()
    answers = []
    for line in rows.split("\n"):
        if line == "new":
            door = Door()
            answers.append(DONE)
        else:
            answers.append(answer_to(door, line))
    return "\n".join(answers)
