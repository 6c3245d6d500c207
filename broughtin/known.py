"""Known links: which of them can be together, and what is left when they are known."""

from broughtin.clubs import check_club, check_possible, day_table, is_whole
from broughtin.errors import InvalidLinks, NoLink
from broughtin.ways import way_at, ways_of

MOST_LINKS = 60


def is_link(club, thing):
    """Whether any object is a tuple of a bringer with a lesser day and a brought member."""
    if type(thing) != tuple or len(thing) != 2:
        return False
    bringer, member = thing
    last = len(club) - 1
    if not is_whole(bringer, last) or not is_whole(member, last):
        return False
    return club[member][1] == "brought" and club[bringer][0] < club[member][0]


def are_links(club, thing):
    """Whether any object is a list of links of the club with unlike members."""
    if type(thing) != list or len(thing) > MOST_LINKS:
        return False
    if not all([is_link(club, link) for link in thing]):
        return False
    return len({link[1] for link in thing}) == len(thing)


def check_links(club, links):
    """Check the arguments of a question about known links."""
    check_club(club)
    if not are_links(club, links):
        raise InvalidLinks("links are a list of tuples (bringer, member), no two with the same member")
    check_possible(club)


def spans(club, link, day):
    """Whether the day is strictly between those of the two."""
    bringer, member = link
    return club[bringer][0] < day < club[member][0]


def reason_apart(club, links):
    """The first reason why no way has all of these links, or None if one has them."""
    bringers = [link[0] for link in links]
    for member, row in enumerate(club):
        if bringers.count(member) > row[2]:
            return ("many", member)
    for day, _, slack in day_table(club):
        if len([link for link in links if spans(club, link, day)]) > slack:
            return ("day", day)
    return None


def club_without(club, links):
    """The club in which the links count no more: lower numbers, and their members came alone."""
    bringers = [link[0] for link in links]
    members = [link[1] for link in links]
    rest = []
    for i, (day, came, number) in enumerate(club):
        rest.append((day, "alone" if i in members else came, number - bringers.count(i)))
    return rest


def ways_with(club, links):
    """How many ways of a possible club have all of these links."""
    if reason_apart(club, links) is not None:
        return 0
    return ways_of(club_without(club, links))


def least_way_with(club, links):
    """The least way with links that can be together."""
    # The links stand in the same places of all ways that have them, so the rest decides which is least.
    way = way_at(club_without(club, links), 0)
    for bringer, member in links:
        way[member] = bringer
    return way


def check_together(club, links):
    """Raise NoLink if no way has all of these links."""
    if reason_apart(club, links) is not None:
        raise NoLink("no way has all of these links")


def can_hold(club, links):
    """Whether some way has all of the links."""
    check_links(club, links)
    return reason_apart(club, links) is None


def span_paper(club, links):
    """None if some way has all of the links, else who has too many, or which day is spanned too often."""
    check_links(club, links)
    return reason_apart(club, links)


def rest_club(club, links):
    """The club with the same ways but for the links, which are no longer open in it."""
    check_links(club, links)
    check_together(club, links)
    return club_without(club, links)


def count_with(club, links):
    """How many ways have all of the links."""
    check_links(club, links)
    return ways_with(club, links)


def way_with(club, links):
    """The least way that has all of the links."""
    check_links(club, links)
    check_together(club, links)
    return least_way_with(club, links)
