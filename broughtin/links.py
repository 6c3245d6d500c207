"""Links: who can have brought whom in a possible club."""

from broughtin.clubs import all_brought, all_days, check_club, check_one, check_possible, check_two, slack_on


def full_days(club):
    """The closing days of a checked club, ascending."""
    return [day for day in all_days(club)[1:] if slack_on(club, day) == 0]


def plain_reason(club, bringer, member):
    """The first reason that the two rows alone give against a link or a line, or None."""
    start, _, number = club[bringer]
    end, came, _ = club[member]
    if came == "alone":
        return ("alone",)
    if number == 0:
        return ("none",)
    if start >= end:
        return ("days",)
    return None


def reason_against(club, closings, bringer, member):
    """The first reason why no way has this link, or None if one has it."""
    reason = plain_reason(club, bringer, member)
    if reason is not None:
        return reason
    for day in closings:
        if club[bringer][0] < day < club[member][0]:
            return ("closing", day)
    return None


def candidates(club, closings, member):
    """Those who can have brought a member, ascending."""
    return [i for i in range(len(club)) if reason_against(club, closings, i, member) is None]


def all_candidates(club):
    """For each member of a possible club the list of those who can have brought it, ascending."""
    closings = full_days(club)
    return [candidates(club, closings, member) for member in range(len(club))]


def can_bring(club, bringer, member):
    """Whether some way has the link of the two."""
    check_two(club, bringer, member)
    return reason_against(club, full_days(club), bringer, member) is None


def bringers_of(club, member):
    """The ascending list of those who can have brought the member."""
    check_one(club, member)
    return candidates(club, full_days(club), member)


def brought_by(club, bringer):
    """The ascending list of those whom the bringer can have brought."""
    check_one(club, bringer)
    closings = full_days(club)
    return [j for j in range(len(club)) if reason_against(club, closings, bringer, j) is None]


def closing_days(club):
    """The closing days, ascending."""
    check_club(club)
    check_possible(club)
    return full_days(club)


def link_paper(club, bringer, member):
    """None if the link can be, else the first reason that holds against it."""
    check_two(club, bringer, member)
    return reason_against(club, full_days(club), bringer, member)


def sure_links(club):
    """The ascending list of the links that all ways have."""
    check_club(club)
    check_possible(club)
    closings = full_days(club)
    links = []
    for member in all_brought(club):
        bringers = candidates(club, closings, member)
        # Each bringer who can be is the one in some way, so a sure link has no rival.
        if len(bringers) == 1:
            links.append((bringers[0], member))
    return sorted(links)
