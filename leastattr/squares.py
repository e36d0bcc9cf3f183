"""Forms of degree two over the attributes of a kind."""

from leastattr.checks import first_wrong
from leastattr.degrees import squared_size, squared_system
from leastattr.errors import NoForm
from leastattr.grammars import kind_place
from leastattr.growth import grown, with_ones
from leastattr.hulls import attributes_at
from leastattr.modules import kernel
from leastattr.smallest import smallest_nonzero
from leastattr.sums import reduced


def quadratics(grammar, kind):
    """The echelon of all forms of degree two that are 0 at all trees of a kind."""
    place = kind_place(grammar, kind)
    rows = with_ones(grown(squared_system(grammar)).states(place))
    return kernel(grammar.width, squared_size(attributes_at(grammar, place)) + 1, rows)


def breaking(grammar, kind, form):
    """A tree of a kind with the fewest nodes at which a form of degree two is not 0, None if there is none."""
    place = kind_place(grammar, kind)
    wrong = first_wrong(form, squared_size(attributes_at(grammar, place)) + 1)
    if wrong is not None:
        raise NoForm(wrong)
    return smallest_nonzero(grammar, squared_system(grammar), place, [reduced(form, grammar.width)])
