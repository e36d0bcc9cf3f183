"""Sums of products of different unknown numbers.

Such a sum is a dict from products to coefficients from 1 to 2 ** width - 1. A product is told by an integer with a
bit for each unknown number in it, so that 0 is the product of none.
"""

from leastattr.steps import rule_table, step_times


def root_products(grammar, tree, names):
    """The attributes of the root of a tree with unknowns; names tells the places of the bits.

    Each unknown number stands just once in the tree that is meant, so two children have none in common.
    """
    rules = rule_table(grammar)
    bits = {name: 1 << place for place, name in enumerate(names)}
    times = step_times(tree)
    states = []
    for at, (name, places, numbers) in enumerate(tree):
        if times[at] == 0:
            # What the root does not use may have an unknown number twice.
            states.append([])
        else:
            children = [states[place] for place in places]
            given = [{bits[number]: 1} if isinstance(number, str) else {0: number} for number in numbers]
            states.append([sum_products(terms, children, given, grammar.width) for terms in rules[name][4]])
    return states[-1]


def sum_products(terms, children, numbers, width):
    """What a sum of a rule comes to with these children and numbers."""
    total = {}
    for factor, picks, number in terms:
        worth = {0: factor}
        for state, pick in zip(children, picks):
            if pick != -1:
                worth = multiplied(worth, state[pick])
        if number != -1:
            worth = multiplied(worth, numbers[number])
        add_to(total, 1, worth)
    return reduced_products(total, width)


def form_products(form, state, width):
    """The value of a form at sums of products."""
    total = {0: form[0]}
    for factor, worth in zip(form[1:], state):
        add_to(total, factor, worth)
    return reduced_products(total, width)


def multiplied(one, other):
    """The product of two sums that have no unknown number in common."""
    return {product | more: one[product] * other[more] for product in one for more in other}


def add_to(total, factor, worth):
    """Adds a sum times a factor to a dict of coefficients."""
    for product in worth:
        total[product] = total.get(product, 0) + factor * worth[product]


def reduced_products(total, width):
    """A sum with its coefficients modulo 2 ** width, and none that is 0."""
    modulus = 1 << width
    return {product: total[product] % modulus for product in total if total[product] % modulus != 0}
