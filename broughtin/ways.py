"""Ways: lists that name each member's bringer, how many there are, and which index each one has.

Each member holds as many slots as its number. The brought members take one
slot each, in their sequence; how many are free then does not depend on those
taken before, which is why ways can be counted by multiplying.
"""

from math import factorial

from broughtin.clubs import all_brought, check_club, check_index, check_possible, is_whole, slots_before
from broughtin.errors import InvalidDraws, InvalidWay


def numbers_in(club):
    """The numbers of the members, a new list."""
    return [row[2] for row in club]


def slot_counts(club):
    """For each brought member, in sequence, how many slots are free when its turn comes."""
    counts = []
    for member in all_brought(club):
        counts.append(slots_before(club, club[member][0]) - len(counts))
    return counts


def slot_orders(club):
    """In how many orders the members of a possible club can give their slots to those whom they brought."""
    orders = 1
    for number in numbers_in(club):
        orders = orders * factorial(number)
    return orders


def ways_of(club):
    """How many ways a possible club has."""
    total = 1
    for count in slot_counts(club):
        total = total * count
    # Which of its slots a bringer gives to whom makes no other way.
    return total // slot_orders(club)


def next_parts(club, left, member, count, slots):
    """The bringers who can come next, ascending, each with how many of the count ways left have it."""
    day = club[member][0]
    return [(i, count * left[i] // slots) for i in range(member) if club[i][0] < day and left[i] > 0]


def way_at(club, index):
    """The way of a possible club with an index that there is."""
    left = numbers_in(club)
    way = [None] * len(club)
    count = ways_of(club)
    for member, slots in zip(all_brought(club), slot_counts(club)):
        parts = next_parts(club, left, member, count, slots)
        for bringer, part in parts:
            if index < part:
                way[member] = bringer
                left[bringer] -= 1
                count = part
                break
            index -= part
    return way


def index_of(club, way):
    """The index of a way of a possible club."""
    left = numbers_in(club)
    count = ways_of(club)
    index = 0
    for member, slots in zip(all_brought(club), slot_counts(club)):
        parts = next_parts(club, left, member, count, slots)
        for bringer, part in parts:
            if bringer == way[member]:
                left[bringer] -= 1
                count = part
                break
            index += part
    return index


def can_name(club, member, bringer):
    """Whether any object can stand for the member in a list of bringers."""
    day, came, _ = club[member]
    if came == "alone":
        return bringer is None
    return is_whole(bringer, len(club) - 1) and club[bringer][0] < day


def fits(club, thing):
    """Whether any object is a way of a checked club."""
    if type(thing) != list or len(thing) != len(club):
        return False
    if not all([can_name(club, member, bringer) for member, bringer in enumerate(thing)]):
        return False
    return [thing.count(i) for i in range(len(club))] == numbers_in(club)


def slot_owner(left, draw):
    """Who holds the free slot with this number."""
    for bringer, many in enumerate(left):
        if draw < many:
            return bringer
        draw -= many
    return None


def way_by_sides(club, owners, takers):
    """A way in which the takers were brought by owners, and the other brought members by others.

    It is made for takers with whom there is such a way.
    """
    left = numbers_in(club)
    way = [None] * len(club)
    for member in all_brought(club):
        inside = member in takers
        # With as many slots of each side as are taken of it, any free one of the side will do.
        free = [i for i in range(member) if left[i] > 0 and club[i][0] < club[member][0]]
        side = [i for i in free if (i in owners) == inside]
        way[member] = side[0]
        left[side[0]] -= 1
    return way


def is_draws(thing):
    """Whether any object is a list of integers."""
    return type(thing) == list and all([type(draw) == int for draw in thing])


def check_draws(counts, draws):
    """Raise InvalidDraws for a list of integers that are not one for each of these counts, and below it."""
    if len(draws) != len(counts):
        raise InvalidDraws("there must be one draw for each brought member")
    if not all([is_whole(draw, count - 1) for draw, count in zip(draws, counts)]):
        raise InvalidDraws("a draw is less than how many slots are free then")


def is_way(club, thing):
    """Whether any object is a way of the club."""
    check_club(club)
    return fits(club, thing)


def count_ways(club):
    """How many ways the club has."""
    check_club(club)
    check_possible(club)
    return ways_of(club)


def nth_way(club, index):
    """The way with this index, in ascending sequence."""
    check_club(club)
    check_possible(club)
    check_index(index, ways_of(club))
    return way_at(club, index)


def way_index(club, way):
    """The index of a way, in ascending sequence."""
    check_club(club)
    check_possible(club)
    if not fits(club, way):
        raise InvalidWay("this is no way of the club")
    return index_of(club, way)


def fair_way(club, draws):
    """The way in which each brought member takes the free slot that its draw tells."""
    check_club(club)
    if not is_draws(draws):
        raise InvalidDraws("draws are a list of integers")
    check_possible(club)
    check_draws(slot_counts(club), draws)
    left = numbers_in(club)
    way = [None] * len(club)
    for member, draw in zip(all_brought(club), draws):
        # Members of the same day or later hold the last slots, beyond every draw.
        bringer = slot_owner(left, draw)
        way[member] = bringer
        left[bringer] -= 1
    return way
