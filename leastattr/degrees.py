"""Systems whose states are the attributes together with their products, two of them each."""

from leastattr.grammars import attribute_counts
from leastattr.systems import System, indexed_rules


def squared_system(grammar):
    """The system of a grammar whose states have all products of two attributes behind the attributes."""
    sizes = list(attribute_counts(grammar.kinds).values())
    plain = []
    choices = []
    for kind, children, numbers, values in indexed_rules(grammar):
        picks = [pair_places(sizes[child]) for child in children]
        products = [product_sum(values[one], values[other], picks, pair_places(numbers))
                    for one, other in pairs_of(sizes[kind])]
        plain.append((kind, children, squared_size(numbers), tuple(values) + tuple(products)))
        choices.append([(given, with_products(given)) for given in small_numbers(numbers)])
    return System(grammar.width, [squared_size(size) for size in sizes], plain, choices)


def pairs_of(size):
    """The list of the pairs of so many indexes, each pair once, those of 0 first."""
    return [(one, other) for one in range(size) for other in range(one, size)]


def squared_size(size):
    """How many numbers there are with the products of so many."""
    return size + len(pairs_of(size))


def with_products(numbers):
    """The tuple of some numbers and, behind them, all their products."""
    return tuple(numbers) + tuple([numbers[one] * numbers[other] for one, other in pairs_of(len(numbers))])


def pair_places(size):
    """A dict from two of so many indexes, or -1, to the place of the product among numbers and their products."""
    found = {(-1, -1): -1}
    for index in range(size):
        found[(-1, index)] = index
        found[(index, -1)] = index
    for at, (one, other) in enumerate(pairs_of(size)):
        found[(one, other)] = size + at
        found[(other, one)] = size + at
    return found


def product_sum(one, other, picks, numbers):
    """The sum that is the product of two sums; picks and numbers have the places of products, as pair_places."""
    found = []
    for factor, own, number in one:
        for more, others, beside in other:
            places = tuple([table[pair] for table, pair in zip(picks, list(zip(own, others)))])
            found.append((factor * more, places, numbers[(number, beside)]))
    return tuple(found)


def small_numbers(many):
    """The tuples of so many numbers that are 2 together at most.

    A sum of products of degree two has the same value at any numbers as an affine combination of those at these,
    since it is a sum of multiples of binomial coefficients.
    """
    found = [()]
    for _ in range(many):
        found = [given + (more,) for given in found for more in range(3 - sum(given))]
    return found
