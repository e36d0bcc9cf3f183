"""The least code of a grammar."""

from leastattr.behaviours import told_differences
from leastattr.codes import Code
from leastattr.grammars import kind_places
from leastattr.hulls import differences
from leastattr.modules import chosen_indexes, coefficients
from leastattr.spans import product_of
from leastattr.surroundings import explored


class Frame:
    """Attributes of a kind to begin with, and steps from there; registers tell how often each step is gone.

    So the registers always stand for attributes in the hull of the kind. points has the attributes with a 1 ahead,
    then the steps with a 0 ahead; none for a kind without trees. wants has the linear parts of what contexts ask,
    told what these make of each step.
    """

    def __init__(self, points, wants, told):
        self.points = points
        self.wants = wants
        self.told = told


def compiled(grammar):
    """A code over a grammar that answers as it does, with the least numbers of registers for all kinds."""
    growth, surroundings = explored(grammar)
    width = grammar.width
    frames = [frame_of(growth, surroundings, place, width) for place in range(len(grammar.kinds))]
    top = kind_places(grammar)[grammar.top]
    rules = [compiled_rule(rule, frames) for rule in growth.system.rules]
    answers = [compiled_answer(answer, frames[top], width) for answer in grammar.answers]
    return Code(width, [len(frame.told) for frame in frames], rules, top, answers)


def frame_of(growth, surroundings, kind, width):
    """The frame of a kind, with as few steps as tell all that contexts ask of its trees."""
    states = growth.states(kind)
    wants = surroundings.asked(kind)
    if len(states) == 0:
        return Frame([], wants, [])
    told = told_differences(growth, surroundings, kind, width)
    chosen = chosen_indexes(told, width)
    steps = differences(states, width)
    points = [[1] + list(states[0])] + [[0] + steps[index] for index in chosen]
    return Frame(points, wants, [told[index] for index in chosen])


def compiled_rule(rule, frames):
    """The rule of the code in the place of a rule.

    What the rule makes of attributes in the hulls of its children is in the hull of its kind, whatever the registers
    of the children are. So it is the beginning of its kind and a sum of products of these registers with differences
    in the hull, and of each of these contexts ask no more than of some sum of multiples of the steps.
    """
    frame = frames[rule.kind]
    inner = [frames[child] for child in rule.children]
    found = []
    # Without trees of a child no node of the rule exists, and its sums may be any.
    if len(frame.told) > 0 and all([len(child.points) > 0 for child in inner]):
        for picks in all_picks([len(child.told) for child in inner]):
            for number in range(-1, rule.numbers):
                found.append((picks, number, factors_at(rule, frame, inner, picks, number)))
    sums = [tuple([(factors[at], picks, number) for picks, number, factors in found if factors[at] != 0])
            for at in range(len(frame.told))]
    return rule.kind, rule.children, rule.numbers, tuple(sums)


def factors_at(rule, frame, inner, picks, number):
    """With which factors the product of some registers and a number stands in the sums of a rule's registers."""
    points = [child.points[pick + 1] for child, pick in zip(inner, picks)]
    row = rule.reckoned_apart(points, number)
    if number == -1 and all([pick == -1 for pick in picks]):
        row = [worth - start for worth, start in zip(row, frame.points[0][1:])]
    wish = [product_of(want, row, rule.width) for want in frame.wants]
    return coefficients(rule.width, len(wish), frame.told, wish)


def all_picks(counts):
    """All tuples that have for each child the index of one of so many registers, or -1."""
    found = [()]
    for many in counts:
        found = [picks + (pick,) for picks in found for pick in range(-1, many)]
    return found


def compiled_answer(answer, frame, width):
    """An answer as a form over the registers of a frame."""
    if len(frame.points) == 0:
        return (0,)
    return tuple([product_of(answer, point, width) for point in frame.points])
