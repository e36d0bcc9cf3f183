"""When a form comes to a value as an affine map is gone again and again, however late that is."""

from leastattr.maps import Powers, applied, composed
from leastattr.reduction import exponent_of
from leastattr.spans import product_of


def first_visit(rows, point, form, wish, width):
    """The least number of times that a map is gone until a form has a value at a point, None if it never has.

    Some times are tried one by one: behind these what the map lets die out has gone, and it has a period modulo 4.
    """
    tried = len(point) * width
    for times in range(tried):
        if product_of(form, point, width) == wish:
            return times
        point = applied(rows, point, width)
    period = period_modulo_4(rows, tried, width)
    rounds = Powers(power_of(rows, period, width), width)
    found = []
    for offset in range(period):
        turns = least_turns(rounds, point, form, wish)
        if turns is not None:
            found.append(tried + offset + period * turns)
        point = applied(rows, point, width)
    return min(found, default=None)


def period_modulo_4(rows, tried, width):
    """The period modulo 4 of a map, from so many times on."""
    lasting = modulo_4(power_of(rows, tried, width))
    period = 1
    further = modulo_4(composed(rows, lasting, width))
    while further != lasting:
        period += 1
        further = modulo_4(composed(rows, further, width))
    return period


def modulo_4(rows):
    """A map with its numbers modulo 4."""
    return [[number & 3 for number in row] for row in rows]


def power_of(rows, times, width):
    """The map that is gone a number of times, 1 at least."""
    found = rows
    for _ in range(times - 1):
        found = composed(rows, found, width)
    return found


def least_turns(rounds, point, form, wish):
    """The least number of times that rounds are gone until a form has a value, None if it never has.

    The number is found from its lowest bit on. A round that is gone 2 ** index times keeps all points that are left
    modulo 2 ** (index + 2). The form at q more of these is its value and sums of multiples of what it has at the
    later differences, times the ways to choose 1, 2, .. of q; so it stays as it is modulo what divides all of these.
    Few beginnings are left each time, as a power series has few zeros.
    """
    found = []
    left = [(0, point)]
    index = 0
    while left:
        rows = rounds.doubling(index)
        behind = []
        for turns, here in left:
            gap = exponent_or_width(product_of(form, here, rounds.width) - wish, rounds.width)
            reach = least_reach(rows, here, form, rounds.width)
            if gap >= reach == rounds.width:
                found.append(turns)
            elif gap >= reach:
                behind.append((turns, here))
                behind.append((turns + (1 << index), applied(rows, here, rounds.width)))
        left = behind
        index += 1
    return min(found, default=None)


def least_reach(rows, point, form, width):
    """The exponent of the greatest power of 2 that divides what a form has at all later differences of a point.

    Those behind as many as there are attributes are sums of multiples of the ones before.
    """
    least = width
    for _ in range(len(point) - 1):
        point = [later - number for later, number in zip(applied(rows, point, width), point)]
        least = min(least, exponent_or_width(product_of(form, point, width), width))
    return least


def exponent_or_width(number, width):
    """The exponent of the greatest power of 2 that divides a number modulo 2 ** width, the width for 0."""
    rest = number % (1 << width)
    return width if rest == 0 else exponent_of(rest)
