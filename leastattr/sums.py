"""Forms and sums: what they are, and their values modulo a power of two."""

from leastattr.checks import is_between, is_integer, is_integers, is_sequence, is_tuple


def is_form(thing, many):
    """Whether a value is a form over so many numbers."""
    return is_integers(thing, many + 1)


def wrong_answers(thing, many, most):
    """None for a list or tuple of 1 to so many forms; otherwise the index of the first that is none, or -1."""
    if not is_sequence(thing, 1, most):
        return -1
    wrong = [index for index, item in enumerate(thing) if not is_form(item, many)]
    return wrong[0] if wrong else None


def is_sum(thing, sizes, numbers, most):
    """Whether a value is a sum of at most so many terms.

    sizes tells how many attributes each child has, numbers how many numbers stand at the node.
    """
    return is_tuple(thing, 0, most) and all([is_term(term, sizes, numbers) for term in thing])


def is_term(thing, sizes, numbers):
    """Whether a value is a term of a sum."""
    if not is_tuple(thing, 3, 3):
        return False
    factor, picks, number = thing
    if not is_integer(factor) or not is_pick(number, numbers):
        return False
    if not is_tuple(picks, len(sizes), len(sizes)):
        return False
    return all([is_pick(pick, size) for pick, size in zip(picks, sizes)])


def is_pick(thing, many):
    """Whether a value is the index of one of so many things, or -1 for none."""
    return is_between(thing, -1, many - 1)


def reduced(numbers, width):
    """The tuple of some numbers modulo 2 ** width."""
    modulus = 1 << width
    return tuple([number % modulus for number in numbers])


def reduced_sum(terms, width):
    """A sum with its factors modulo 2 ** width."""
    modulus = 1 << width
    return tuple([(factor % modulus, tuple(picks), number) for factor, picks, number in terms])


def form_value(form, numbers, width):
    """The value of a form at some numbers."""
    parts = [factor * number for factor, number in zip(form[1:], numbers)]
    return (form[0] + sum(parts)) % (1 << width)


def sum_value(terms, children, numbers, width):
    """The value of a sum at the states of the children and the numbers of a node."""
    total = 0
    for factor, picks, number in terms:
        worth = factor
        for state, pick in zip(children, picks):
            if pick != -1:
                worth = worth * state[pick]
        if number != -1:
            worth = worth * numbers[number]
        total += worth
    return total % (1 << width)
