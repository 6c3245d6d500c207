"""What the tests share: ways found by trying, clubs made at hand, and calls that are watched."""

import random
from copy import deepcopy
from fractions import Fraction
from functools import lru_cache
from itertools import combinations, product

from broughtin.errors import Impossible

TOP = 10 ** 30

EXAMPLE = [
    (0, "alone", 2),
    (0, "alone", 1),
    (1, "brought", 1),
    (1, "brought", 0),
    (2, "brought", 0),
    (3, "brought", 0),
]

# Its six ways, ascending.
EXAMPLE_WAYS = [
    [None, None, 0, 0, 1, 2], [None, None, 0, 0, 2, 1], [None, None, 0, 1, 0, 2],
    [None, None, 0, 1, 2, 0], [None, None, 1, 0, 0, 2], [None, None, 1, 0, 2, 0],
]

# Clubs that are not possible, with what conflict_of tells of them.
NOT_POSSIBLE = [
    ([(0, "alone", 0), (2, "brought", 1), (4, "brought", 3)], ("day", 2)),
    ([(0, "alone", 2), (1, "brought", 0), (1, "alone", 2)], ("left", 3)),
    ([(0, "alone", TOP), (TOP, "brought", TOP), (TOP, "brought", 0)], ("left", 2 * TOP - 2)),
    ([(0, "alone", 1), (1, "brought", 0), (TOP, "brought", 1)], ("day", TOP)),
]

# Objects that are no club, no member of one and no conflict.
STRANGE = [0, 7, -1, True, None, "", "club", (), {}, {"day": 1}]
INVALID_CLUBS = STRANGE + [
    [], tuple(EXAMPLE), [(0, "alone", True)], [(0, "alone", 0)] * 61, EXAMPLE + [(2, "alone", 0)],
]
# Integers that are no member's index of the example.
NO_MEMBERS = [-1, 6, 7, 60, TOP, -TOP, True, False]
# No object here is a group of the example, or of a smaller club.
NO_GROUPS = [
    None, True, 0, 4, "", "45", (), (4, 5), {}, {4: 5}, [None], [[4]], [(4,)], ["4"], [True], [False], [0, True],
    [-1], [6], [4, 6], [TOP], [-TOP, 2], [5, 4], [4, 4], [0, 1, 1], [2, 4, 3], [4, 5, None], [[], 2],
]


def lists_of_bringers(club, upto=None):
    """Every list of bringers in which nobody brings more than its number.

    With a day upto only the members with a day up to it need a bringer.
    """
    found = []

    def go_on(chosen, left):
        member = len(chosen)
        if member == len(club):
            found.append((chosen, left))
            return
        day, came, _ = club[member]
        if came == "alone" or (upto is not None and day > upto):
            go_on(chosen + [None], left)
            return
        for bringer in range(len(club)):
            if club[bringer][0] < day and left[bringer] > 0:
                go_on(chosen + [bringer], left[:bringer] + [left[bringer] - 1] + left[bringer + 1:])

    go_on([], [row[2] for row in club])
    return found


def ways_by_trying(club):
    """All ways of the club, each member's bringer tried in turn."""
    return [chosen for chosen, left in lists_of_bringers(club) if not any(left)]


def conflict_by_trying(club):
    """The conflict, found without free or slack."""
    for day in sorted({row[0] for row in club}):
        if not lists_of_bringers(club, upto=day):
            return ("day", day)
    left = sum(row[2] for row in club) - sum(row[1] == "brought" for row in club)
    return ("left", left) if left else None


def links_by_trying(club):
    """For each link that can be, in how many ways it is; and the number of ways."""
    ways = ways_by_trying(club)
    links = {}
    for way in ways:
        for member, bringer in enumerate(way):
            if bringer is not None:
                links[bringer, member] = links.get((bringer, member), 0) + 1
    return links, len(ways)


def day_lists(size):
    """Lists of days: each behind the one before by 0, 1 or 2, from day 0 on."""
    for steps in product((0, 1, 2), repeat=size - 1):
        days = [0]
        for step in steps:
            days.append(days[-1] + step)
        yield days


def small_clubs(size):
    """All clubs of so many members with such days and numbers up to 2."""
    for days in day_lists(size):
        for cames in product(("alone", "brought"), repeat=size):
            for numbers in product((0, 1, 2), repeat=size):
                yield list(zip(days, cames, numbers))


def random_club(chance, size, spread=None, brought=0.75):
    """A club that has a way: each brought member counts at a member of a lesser day.

    The days are spread over so many; the fewer, the more ways there are.
    """
    days = sorted(chance.randrange(spread or size) * 3 for _ in range(size))
    cames, numbers = [], [0] * size
    for day in days:
        earlier = [i for i in range(size) if days[i] < day]
        if earlier and chance.random() < brought:
            cames.append("brought")
            numbers[chance.choice(earlier)] += 1
        else:
            cames.append("alone")
    return list(zip(days, cames, numbers))


@lru_cache(maxsize=None)
def tried_clubs():
    """Possible clubs of 1 to 9 members, each with all its ways: all small ones and some larger ones."""
    chance = random.Random(23)
    clubs = [club for size in (1, 2, 3, 4) for club in small_clubs(size)]
    clubs += [random_club(chance, size) for size in (5, 6, 7) for _ in range(40)]
    clubs += [random_club(chance, size, spread, 0.9) for size in (6, 7, 8, 9) for spread in (3, 5) for _ in range(20)]
    pairs = [(club, ways_by_trying(club)) for club in clubs]
    return [(club, ways) for club, ways in pairs if ways]


def wide_club(chance, size):
    """A possible club of so many members, with days up to 10 ** 30."""
    step = TOP // (3 * size)
    return [(day * step, came, number) for day, came, number in random_club(chance, size)]


def wide_clubs():
    """Possible clubs of 12 to 60 members, days up to 10 ** 30."""
    chance = random.Random(41)
    return [wide_club(chance, size) for size in (12, 17, 24, 33, 45, 60)]


def fraction_of(top, bottom):
    """The tuple of a fraction, in lowest terms."""
    fraction = Fraction(top, bottom)
    return (fraction.numerator, fraction.denominator)


def added(parts):
    """The sum of the fractions in a list of tuples (top, bottom)."""
    return sum((Fraction(top, bottom) for top, bottom in parts), Fraction(0))


def links_in(way):
    """The links of a way, by their members."""
    return [(bringer, member) for member, bringer in enumerate(way) if bringer is not None]


def error_of(call, *args, **named):
    """The error that a call raises, checked to leave its arguments as they were."""
    before = deepcopy((args, named))
    try:
        call(*args, **named)
    except Exception as error:
        assert repr((args, named)) == repr(before), "the arguments were modified"
        return error
    raise AssertionError(f"{call.__name__} raised nothing")


def line_up(way, member):
    """The member, its bringer, that one's bringer and so on, up to one who came alone."""
    line = [member]
    while way[line[-1]] is not None:
        line.append(way[line[-1]])
    return line


def family_in(way, member):
    """All who are below a member in one way, ascending."""
    return [other for other in range(len(way)) if other != member and member in line_up(way, other)]


def sublists(things):
    """All ascending lists of some of the things."""
    return [list(some) for size in range(len(things) + 1) for some in combinations(things, size)]


def kind_of(call, *args, **named):
    """The class of the error that a call raises, and of no other one."""
    return type(error_of(call, *args, **named))


def conflict_in(call, *args, **named):
    """The word and the number of the Impossible that a call raises."""
    error = error_of(call, *args, **named)
    assert type(error) is Impossible, error
    return (error.word, error.number)


def answer_of(call, *args, **named):
    """What a call returns, checked to be the same again, new, and to leave its arguments as they were."""
    before = deepcopy((args, named))
    first = call(*args, **named)
    second = call(*args, **named)
    assert repr((args, named)) == repr(before), "the arguments were modified"
    assert first == second, "two equal calls returned unlike results"
    if isinstance(first, list):
        assert first is not second, "two calls returned one list"
        first.append("changed by the caller")
        assert call(*args, **named) == second, "a returned list is kept by the program"
    return second
