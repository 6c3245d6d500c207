"""Texts: clubs, ways and links as words with single blanks between, and back."""

from broughtin.clubs import LIMIT, MOST_MEMBERS, is_whole
from broughtin.errors import InvalidLinks, InvalidText, InvalidWay
from broughtin.known import MOST_LINKS
from broughtin.unsure import check_unsure_club, is_unsure_club

MOST_DIGITS = 31
NONE_WORD = "-"
SIGNS = {"alone": ":", "brought": "=", "unsure": "?"}


def is_number(word):
    """Whether a word is a number without leading zeros, and not too long."""
    if not (word.isascii() and word.isdigit()) or len(word) > MOST_DIGITS:
        return False
    return word == "0" or word[0] != "0"


def pair_in(word, sign, most):
    """The two numbers, up to most, on both sides of the sign; None for any other word."""
    parts = word.split(sign)
    if len(parts) != 2 or not all([is_number(part) for part in parts]):
        return None
    one, two = int(parts[0]), int(parts[1])
    return (one, two) if max(one, two) <= most else None


def row_in(word):
    """The member that a word tells; None for any other word."""
    for came, sign in SIGNS.items():
        pair = pair_in(word, sign, LIMIT)
        if pair is not None:
            return (pair[0], came, pair[1])
    return None


def is_bringer(thing):
    """Whether any object can stand in a way."""
    return thing is None or is_whole(thing, MOST_MEMBERS - 1)


def are_bringers(thing):
    """Whether any object has the form of a way."""
    return type(thing) == list and 1 <= len(thing) <= MOST_MEMBERS and all([is_bringer(by) for by in thing])


def is_pair(thing):
    """Whether any object is a tuple of two members' indices."""
    return type(thing) == tuple and len(thing) == 2 and all([is_whole(i, MOST_MEMBERS - 1) for i in thing])


def are_pairs(thing):
    """Whether any object has the form of links."""
    if type(thing) != list or len(thing) > MOST_LINKS or not all([is_pair(link) for link in thing]):
        return False
    return len({link[1] for link in thing}) == len(thing)


def write_club(club):
    """The text of a club, which may have unsure members."""
    check_unsure_club(club)
    return " ".join([f"{day}{SIGNS[came]}{number}" for day, came, number in club])


def read_club(text):
    """The club of a text."""
    club = []
    for place, word in enumerate(text.split(" ")):
        row = row_in(word)
        if row is None or not is_unsure_club(club + [row]):
            raise InvalidText(place)
        club.append(row)
    return club


def write_way(way):
    """The text of a way."""
    if not are_bringers(way):
        raise InvalidWay("this is no list of bringers")
    return " ".join([NONE_WORD if bringer is None else str(bringer) for bringer in way])


def read_way(text):
    """The way of a text."""
    way = []
    for place, word in enumerate(text.split(" ")):
        if word != NONE_WORD and not is_number(word):
            raise InvalidText(place)
        way.append(None if word == NONE_WORD else int(word))
        if not are_bringers(way):
            raise InvalidText(place)
    return way


def write_links(links):
    """The text of links."""
    if not are_pairs(links):
        raise InvalidLinks("links are tuples (bringer, member), no two with the same member")
    if not links:
        return NONE_WORD
    return " ".join([f"{bringer}>{member}" for bringer, member in links])


def read_links(text):
    """The links of a text."""
    words = text.split(" ")
    if words == [NONE_WORD]:
        return []
    # Behind the word for no links nothing can stand, but it can stand itself as the first one.
    if words[0] == NONE_WORD:
        raise InvalidText(1)
    links = []
    for place, word in enumerate(words):
        link = pair_in(word, ">", MOST_MEMBERS - 1)
        if link is None or not are_pairs(links + [link]):
            raise InvalidText(place)
        links.append(link)
    return links
