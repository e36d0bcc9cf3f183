"""Trees in which names stand in the place of unknown numbers."""

from leastattr.checks import is_integer, is_known, is_name, is_tuple
from leastattr.errors import ManyUnknowns, NoNumbers, NotOnce, NotTop
from leastattr.products import form_products, root_products
from leastattr.steps import checked_tree, step_times

MOST_UNKNOWNS = 6


def unknowns(grammar, tree):
    """The list of the names of the unknown numbers of a tree."""
    return checked_unknowns(grammar, tree)[1]


def value_with(grammar, tree):
    """The list of the sums of products of unknown numbers that are the attributes of the root."""
    names = sorted(checked_unknowns(grammar, tree)[1])
    return [told_sum(worth, names) for worth in root_products(grammar, tree, names)]


def answers_with(grammar, tree):
    """The list of the sums of products of unknown numbers that are the answers."""
    names = sorted(unknowns_of_top(grammar, tree))
    return [told_sum(worth, names) for worth in answer_products(grammar, tree, names)]


def mattering(grammar, tree):
    """The sorted list of the unknown numbers that matter for an answer."""
    names = sorted(unknowns_of_top(grammar, tree))
    used = [product for worth in answer_products(grammar, tree, names) for product in worth]
    return [name for place, name in enumerate(names) if any([product >> place & 1 for product in used])]


def put_in(grammar, tree, numbers):
    """The list of the steps of a tree with numbers in the place of some unknown ones."""
    names = checked_unknowns(grammar, tree)[1]
    if not isinstance(numbers, dict):
        raise NoNumbers(-1)
    for name in numbers:
        if not is_known(name, names) or not is_integer(numbers[name]):
            raise NoNumbers(-1)
    return [(rule, places, tuple([put_at(number, numbers) for number in given])) for rule, places, given in tree]


def parted(grammar, one, other):
    """None if two trees give the same answers for all numbers; otherwise a dict from names to 0 or 1 that parts them.

    A difference that is 0 for all numbers of which fewer are 1 is, for these, the coefficient of their product. So
    the first of the smallest products whose coefficients differ is what is asked.
    """
    own = unknowns_of_top(grammar, one)
    names = sorted(set(own + unknowns_of_top(grammar, other)))
    apart = []
    for first, second in zip(answer_products(grammar, one, names), answer_products(grammar, other, names)):
        both = list(first) + list(second)
        apart.extend([product for product in both if first.get(product, 0) != second.get(product, 0)])
    if len(apart) == 0:
        return None
    least = min([(len(own_names), own_names) for own_names in [names_in(product, names) for product in apart]])
    return {name: 1 if name in least[1] else 0 for name in names}


def checked_unknowns(grammar, tree):
    """The kind of the root of a tree with unknowns, and the list of the names; raises NoTree and its own errors."""
    kind = checked_tree(grammar, with_zeros(tree))[-1]
    standing = [(name, at) for at, item in enumerate(tree) for name in item[2] if isinstance(name, str)]
    names = [name for name, _ in standing]
    if len(set(names)) > MOST_UNKNOWNS:
        raise ManyUnknowns(len(set(names)))
    times = step_times(tree)
    for name, at in standing:
        if names.count(name) != 1 or times[at] != 1:
            raise NotOnce(name)
    return kind, names


def unknowns_of_top(grammar, tree):
    """The list of the names in a tree of the top kind; raises NotTop besides."""
    kind, names = checked_unknowns(grammar, tree)
    if kind != grammar.top:
        raise NotTop(kind)
    return names


def with_zeros(thing):
    """A value with 0 in the place of all names that stand where the numbers of steps do."""
    if not isinstance(thing, (list, tuple)):
        return thing
    return [zeroed(item) for item in thing]


def zeroed(thing):
    """A value that may be a step with 0 in the place of all names among its numbers."""
    if not is_tuple(thing, 3, 3) or not isinstance(thing[2], tuple):
        return thing
    return thing[0], thing[1], tuple([0 if is_name(number) else number for number in thing[2]])


def answer_products(grammar, tree, names):
    """The answers of a tree as dicts from products of unknown numbers to coefficients."""
    state = root_products(grammar, tree, names)
    return [form_products(answer, state, grammar.width) for answer in grammar.answers]


def put_at(number, numbers):
    """The number that stands for what stands at a node."""
    return numbers[number] if isinstance(number, str) and number in numbers else number


def told_sum(worth, names):
    """A sum of products as a list of tuples (coefficient, names), in order."""
    found = []
    for product in worth:
        own = names_in(product, names)
        found.append((len(own), own, worth[product]))
    return [(coefficient, own) for _, own, coefficient in sorted(found)]


def names_in(product, names):
    """The tuple of the names of which a number is the product, each told by a bit."""
    return tuple([name for place, name in enumerate(names) if product >> place & 1])
