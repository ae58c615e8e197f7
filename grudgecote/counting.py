"""How many standings pecks lead to where all are awake, each by its number."""

from math import comb

from grudgecote.errors import NoStanding
from grudgecote.givings import need_unbarred
from grudgecote.limits import MOST_GRUDGES
from grudgecote.lines import cut, line, lines_of
from grudgecote.standings import need_few, need_same


def cut_lists(lines):
    """All lists of cuts of these lines, rising."""
    lists = [[]]
    for triple in lines:
        lists = [cuts + [many] for cuts in lists for many in range(len(triple[2]) + 1)]
    return lists


def shares_with(doves, lines, cuts):
    """Dove by dove, how many grudges about each one it has with these cuts."""
    shares = [[0] * doves for _ in range(doves)]
    for triple, many in zip(lines, cuts):
        one, other, words = triple
        shares[one][other] = many
        shares[other][one] = len(words) - many
    return shares


def all_shares(standing):
    """The shares of all standings that pecks lead to, each once, as their cuts rise."""
    # A bare line has one cut alone, so it orders nothing.
    lines = lines_of(standing)
    return [shares_with(len(standing), lines, cuts) for cuts in cut_lists(lines)]


def shares_in(standing):
    """Dove by dove, how many grudges about each one it has."""
    doves = len(standing)
    return [[cut(standing, dove, about) for about in range(doves)] for dove in range(doves)]


def orders_of(share):
    """How many unlike lists there are of so many of each dove."""
    ways = 1
    total = 0
    for many in share:
        total += many
        ways *= comb(total, many)
    return ways


def orders_behind(share, first):
    """How many of these lists begin with this dove."""
    if not share[first]:
        return 0
    left = list(share)
    left[first] -= 1
    return orders_of(left)


def nth_order(share, number):
    """The list of this number, as they rise."""
    left = list(share)
    abouts = []
    while any(left):
        about = 0
        while number >= orders_behind(left, about):
            number -= orders_behind(left, about)
            about += 1
        abouts.append(about)
        left[about] -= 1
    return abouts


def number_of_order(share, abouts):
    """The number of a list, as they rise."""
    left = list(share)
    number = 0
    for about in abouts:
        number += sum([orders_behind(left, lesser) for lesser in range(about)])
        left[about] -= 1
    return number


def many_with(shares):
    """How many standings there are with these shares."""
    many = 1
    for share in shares:
        many *= orders_of(share)
    return many


def heap_with(standing, dove, abouts):
    """A dove's heap about these ones: of each line the next word, counted from its own end."""
    words = [line(standing, dove, about)[abouts[:place].count(about)] for place, about in enumerate(abouts)]
    return tuple(zip(abouts, words))


def nth_with(standing, shares, number):
    """The standing of this number among those with these shares."""
    orders = []
    # The last heap's order changes first, so numbers are taken apart from behind.
    for share in shares[::-1]:
        number, last = divmod(number, orders_of(share))
        orders.append(nth_order(share, last))
    return tuple([heap_with(standing, dove, abouts) for dove, abouts in enumerate(orders[::-1])])


def number_with(shares, standing):
    """The number of a standing among those with its shares."""
    number = 0
    for share, heap in zip(shares, standing):
        number = number * orders_of(share) + number_of_order(share, [grudge[0] for grudge in heap])
    return number


def how_many(standing):
    """How many STANDINGs pecks lead to, it among them."""
    need_few(standing, MOST_GRUDGES)
    return sum([many_with(shares) for shares in all_shares(standing)])


def nth(standing, number):
    """The STANDING of this number."""
    need_few(standing, MOST_GRUDGES)
    left = number
    for shares in all_shares(standing):
        if 0 <= left < many_with(shares):
            return nth_with(standing, shares, left)
        left -= many_with(shares)
    raise NoStanding(number)


def number_of(standing, other):
    """The number of one of them."""
    need_same(standing, other)
    need_few(standing, MOST_GRUDGES)
    # Where all are awake everything can move, and a line alone bars.
    need_unbarred(standing, other, ())
    shares = shares_in(other)
    behind = all_shares(standing)
    earlier = behind[:behind.index(shares)]
    return sum([many_with(those) for those in earlier]) + number_with(shares, other)
