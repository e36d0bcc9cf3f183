"""Systems: what grammars and codes have in common, rules by the indexes of their kinds."""

from leastattr.grammars import attribute_counts, kind_places
from leastattr.reduction import unit_row
from leastattr.sums import reduced


class Rule:
    """A rule whose sums are told by the products of attributes and numbers that they use.

    The sums of a code have many terms over few products, so each product is reckoned once for all of them. choices
    has tuples (numbers, worths): numbers that may stand at a node, and what the terms take for them, of which all
    others are affine combinations.
    """

    def __init__(self, width, kind, children, numbers, values, choices):
        self.width = width
        self.kind = kind
        self.children = children
        self.numbers = numbers
        self.choices = choices
        places = {}
        self.rows = [gathered(terms, places, width) for terms in values]
        self.products = list(places)

    def reckoned(self, children, numbers):
        """The tuple of the attributes of a node with these states of its children and these numbers."""
        worths = []
        for picks, number in self.products:
            worth = picked_product(picks, children)
            worths.append(worth if number == -1 else worth * numbers[number])
        modulus = 1 << self.width
        return tuple([sum([factor * worths[place] for place, factor in row]) % modulus for row in self.rows])

    def reckoned_apart(self, points, number):
        """The row of what in the attributes goes times a number, or has none for -1.

        The points are rows of a constant and attributes, of which it is a sum of products, one of each.
        """
        worths = []
        for picks, own in self.products:
            worths.append(picked_product([pick + 1 for pick in picks], points) if own == number else 0)
        return [sum([factor * worths[place] for place, factor in row]) for row in self.rows]

    def open_forms(self, hole, size, children):
        """A list of tuples (numbers, forms): the attributes of a node as forms over those of one child.

        hole is the index of this child, size how many attributes it has, and children has None at its place; -1
        and 0 if no child is left open. There is one tuple for each choice of numbers.
        """
        tables = self.open_tables(hole, size, children)
        found = []
        for numbers, worths in self.choices:
            table = tables[0]
            for worth, more in zip(worths, tables[1:]):
                if worth != 0:
                    table = [add_rows(one, worth, other) for one, other in zip(table, more)]
            found.append((numbers, [reduced(form, self.width) for form in table]))
        return found

    def open_tables(self, hole, size, children):
        """The forms of what has no number, then of what goes times each number, as in open_forms, not reduced."""
        cells = []
        for picks, number in self.products:
            column = 0 if hole == -1 else picks[hole] + 1
            cells.append((number + 1, column, picked_product(picks, children)))
        tables = [[[0] * (size + 1) for _ in self.rows] for _ in range(self.numbers + 1)]
        for at, row in enumerate(self.rows):
            for place, factor in row:
                index, column, worth = cells[place]
                tables[index][at][column] += factor * worth
        return tables


class System:
    """Kinds that are told by how many attributes they have, and rules, with the choices of their numbers if told."""

    def __init__(self, width, sizes, plain, choices=None):
        self.width = width
        self.sizes = sizes
        self.plain = plain
        self.rules = []
        for at, (kind, children, numbers, values) in enumerate(plain):
            own = number_choices(numbers) if choices is None else choices[at]
            self.rules.append(Rule(width, kind, children, numbers, values, own))


def gathered(terms, places, width):
    """A list of tuples (place, factor): a sum, by the places of its products, which are given to new ones."""
    factors = {}
    for factor, picks, number in terms:
        place = places.setdefault((picks, number), len(places))
        factors[place] = (factors.get(place, 0) + factor) % (1 << width)
    return [(place, factors[place]) for place in factors if factors[place] != 0]


def picked_product(picks, children):
    """The product of the picked attributes of the children; a child that is None is left out."""
    worth = 1
    for pick, state in zip(picks, children):
        if pick != -1 and state is not None:
            worth = worth * state[pick]
    return worth


def number_choices(many):
    """The choices of numbers that terms take as they are: 0 for all, and a single 1."""
    found = [(0,) * many]
    for place in range(many):
        found.append(tuple(unit_row(many, place)))
    return [(numbers, numbers) for numbers in found]


def tuples_of(choices):
    """The list of all tuples with an item of each list, in the order of the lists."""
    found = [()]
    for items in choices:
        found = [given + (item,) for given in found for item in items]
    return found


def add_rows(one, factor, other):
    """A row and another one times a factor, number by number."""
    return [number + factor * more for number, more in zip(one, other)]


def indexed_rules(grammar):
    """The rules of a grammar as those of a code: tuples (kind, children, numbers, values), kinds by their indexes."""
    places = kind_places(grammar)
    return [(places[kind], tuple([places[child] for child in children]), numbers, values)
            for _, kind, children, numbers, values in grammar.rules]


def grammar_system(grammar):
    """The system of a grammar."""
    return System(grammar.width, list(attribute_counts(grammar.kinds).values()), indexed_rules(grammar))


def code_system(code):
    """The system of a code."""
    return System(code.width, list(code.counts), list(code.rules))


def joined(one, other):
    """The system whose nodes have the attributes of one and, behind them, those of another of the same shape."""
    sizes = [size + more for size, more in zip(one.sizes, other.sizes)]
    plain = []
    for first, second in zip(one.plain, other.plain):
        kind, children, numbers, values = first
        offsets = [one.sizes[child] for child in children]
        moved = tuple([tuple([moved_term(term, offsets) for term in terms]) for terms in second[3]])
        plain.append((kind, children, numbers, tuple(values) + moved))
    return System(one.width, sizes, plain)


def moved_term(term, offsets):
    """A term whose picks are moved behind so many other attributes of each child."""
    factor, picks, number = term
    moved = tuple([pick if pick == -1 else pick + offset for pick, offset in zip(picks, offsets)])
    return factor, moved, number
