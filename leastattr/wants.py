"""What is wanted: what contexts ask of the attributes of the trees in their hole."""

from leastattr.building import context_steps
from leastattr.checks import first_wrong, is_between, is_tuple
from leastattr.errors import NoContext, NoForm, NoState
from leastattr.grammars import kind_place
from leastattr.growth import Growth
from leastattr.hulls import attributes_at
from leastattr.modules import as_tuples, chosen_indexes
from leastattr.reduction import echelon_rows, remainder
from leastattr.spans import product_of
from leastattr.sums import reduced
from leastattr.surroundings import asked_through, explored, surrounded
from leastattr.systems import grammar_system
from leastattr.trees import context_map, kinds_of_context


def wanted(grammar, kind):
    """The echelon of what all contexts ask of a kind, rows of coefficients."""
    place = kind_place(grammar, kind)
    surroundings = explored(grammar)[1]
    return wanted_rows(surroundings.asked(place), grammar.width)


def all_wanted(grammar):
    """The list of what is wanted of all kinds."""
    surroundings = explored(grammar)[1]
    return [wanted_rows(surroundings.asked(place), grammar.width) for place in range(len(grammar.kinds))]


def is_wanted(grammar, kind, form):
    """Whether the linear part of a form over the attributes of a kind is wanted."""
    place = kind_place(grammar, kind)
    wrong = first_wrong(form, attributes_at(grammar, place) + 1)
    if wrong is not None:
        raise NoForm(wrong)
    steps = echelon_rows(as_lists(explored(grammar)[1].asked(place)), grammar.width)
    return not any(remainder(list(reduced(form[1:], grammar.width)), steps, grammar.width))


def spanning_contexts(grammar, kind):
    """A list of as few tuples (context, index) as ask all that is wanted of a kind."""
    place = kind_place(grammar, kind)
    growth, surroundings = explored(grammar)
    chosen = chosen_indexes(as_lists(surroundings.asked(place)), grammar.width)
    return [told_pair(grammar, growth, surroundings, surroundings.of_kind[place][index]) for index in chosen]


def is_spanning_contexts(grammar, kind, pairs):
    """Whether a value is a list of tuples (context, index) that ask all that is wanted of a kind."""
    place = kind_place(grammar, kind)
    if not isinstance(pairs, list):
        return False
    forms = [form_of_pair(grammar, kind, pair) for pair in pairs]
    if not all([form is not None for form in forms]):
        return False
    width = grammar.width
    return wanted_rows([form[1:] for form in forms], width) == wanted_rows(explored(grammar)[1].asked(place), width)


def told_apart(grammar, kind, one, other):
    """A tuple (context, index) with the fewest nodes that tells two states apart, None if there is none."""
    place = kind_place(grammar, kind)
    for state in (one, other):
        wrong = first_wrong(state, attributes_at(grammar, place))
        if wrong is not None:
            raise NoState(wrong)
    gap = [number - less for number, less in zip(one, other)]
    growth = Growth(grammar_system(grammar))
    growth.finish()
    surroundings = surrounded(grammar, growth)
    found = surroundings.next_context()
    while found is not None:
        around = surroundings.found[found]
        if around.kind == place and product_of(around.row, gap, grammar.width) != 0:
            return told_pair(grammar, growth, surroundings, found)
        found = surroundings.next_context()
    return None


def wanted_rows(rows, width):
    """The echelon of some linear parts, as tuples."""
    return as_tuples(echelon_rows(as_lists(rows), width))


def as_lists(rows):
    """Rows as lists."""
    return [list(row) for row in rows]


def told_pair(grammar, growth, surroundings, place):
    """The tuple (context, index) of a found context."""
    steps = context_steps(grammar, growth.found, surroundings.found, place)
    return steps, surroundings.found[place].answer


def form_of_pair(grammar, kind, thing):
    """The answer in a context as a form over the attributes of its hole; None for what is no tuple of such."""
    if not is_tuple(thing, 2, 2) or not is_between(thing[1], 0, len(grammar.answers) - 1):
        return None
    context, index = thing
    try:
        kinds = kinds_of_context(grammar, context)
    except NoContext:
        return None
    if kinds != (kind, grammar.top):
        return None
    return answer_form(grammar.answers[index], context_map(grammar, context), grammar.width)


def answer_form(answer, forms, width):
    """A form over some attributes as one over what these are forms over."""
    constant = answer[0] + product_of(answer[1:], [form[0] for form in forms], width)
    return (constant % (1 << width),) + asked_through(answer[1:], forms, width)
