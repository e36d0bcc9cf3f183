"""Recipes: attributes that are made of the registers of a code, for the grammar to go on with."""

from leastattr.building import tree_steps
from leastattr.checks import is_tuple
from leastattr.codes import check_over
from leastattr.errors import NoRecipe
from leastattr.grammars import kind_place
from leastattr.growth import grown, with_ones
from leastattr.hulls import attributes_at, differences
from leastattr.modules import as_tuples, chosen_indexes, coefficients, kernel
from leastattr.reduction import echelon_rows
from leastattr.spans import product_of
from leastattr.sums import form_value, is_form, reduced
from leastattr.surroundings import explored
from leastattr.systems import code_system, grammar_system, joined
from leastattr.wants import told_pair


def takeover(grammar, code, kind):
    """A right recipe for a kind of a code, None if there is none."""
    check_over(grammar, code)
    place = kind_place(grammar, kind)
    size = attributes_at(grammar, place)
    many = code.counts[place]
    width = grammar.width
    asked = explored(grammar)[1].asked(place)
    states = spanning_states(both_grown(grammar, code), place, width)
    points = [(1,) + state[size:] for state in states]
    # Each number of a recipe is unknown; it counts in each tree and in each linear part that is asked.
    effects = []
    for attribute in range(size):
        for column in range(many + 1):
            effects.append([row[attribute] * point[column] for point in points for row in asked])
    wish = [product_of(row, state, width) for state in states for row in asked]
    found = coefficients(width, len(wish), effects, wish)
    if found is None:
        return None
    return tuple([found[start:start + many + 1] for start in range(0, len(found), many + 1)])


def check_recipe(grammar, code, kind, recipe):
    """None if a recipe is right; otherwise a tuple (tree, pair) on which it fails."""
    check_over(grammar, code)
    place = kind_place(grammar, kind)
    size = attributes_at(grammar, place)
    own = checked_recipe(recipe, size, code.counts[place], grammar.width)
    growth, surroundings = explored(grammar)
    both = both_grown(grammar, code)
    for tree in both.of_kind[place]:
        state = both.found[tree].state
        made = [form_value(form, state[size:], grammar.width) for form in own]
        more = [worth - own_worth for worth, own_worth in zip(made, state)]
        for context in surroundings.of_kind[place]:
            if product_of(surroundings.found[context].row, more, grammar.width) != 0:
                return tree_steps(grammar, both.found, tree), told_pair(grammar, growth, surroundings, context)
    return None


def given_back(grammar, code, kind):
    """The echelon of all linear parts over the attributes of a kind that a code gives back."""
    check_over(grammar, code)
    place = kind_place(grammar, kind)
    size = attributes_at(grammar, place)
    rows = differences(both_grown(grammar, code).states(place), grammar.width)
    # A form over the attributes less one over the registers is the same for all trees.
    same = kernel(grammar.width, size + code.counts[place], rows)
    return as_tuples(echelon_rows([list(row[:size]) for row in same], grammar.width))


def both_grown(grammar, code):
    """What has gone through all trees, with their attributes and, behind them, their registers."""
    return grown(joined(grammar_system(grammar), code_system(code)))


def spanning_states(growth, kind, width):
    """The attributes and registers of as few trees of a kind as have the hull of all."""
    states = growth.states(kind)
    return [states[index] for index in chosen_indexes(with_ones(states), width)]


def checked_recipe(thing, size, many, width):
    """A recipe for so many attributes with its forms reduced; raises NoRecipe."""
    if not is_tuple(thing, size, size):
        raise NoRecipe(-1)
    for index, item in enumerate(thing):
        if not is_form(item, many):
            raise NoRecipe(index)
    return [reduced(form, width) for form in thing]
