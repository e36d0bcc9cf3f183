"""The errors of the package; each keeps its fields as they are."""


class AttrError(ValueError):
    """The base of all errors of the package."""


class NoGrammar(AttrError):
    """What was handed in for a part of a grammar is none."""

    def __init__(self, part, index):
        self.part = part
        self.index = index


class NoKind(AttrError):
    """A value is not the name of a kind."""

    def __init__(self, kind):
        self.kind = kind


class NoTree(AttrError):
    """A value is no tree."""

    def __init__(self, index):
        self.index = index


class NotTop(AttrError):
    """The root of a tree is of another kind than the top one."""

    def __init__(self, kind):
        self.kind = kind


class NoContext(AttrError):
    """A value is no context."""

    def __init__(self, index):
        self.index = index


class WrongKind(AttrError):
    """A tree or context is of another kind than the one that is needed."""

    def __init__(self, kind):
        self.kind = kind


class NoCode(AttrError):
    """What was handed in for a part of a code is none."""

    def __init__(self, part, index):
        self.part = part
        self.index = index


class NotOver(AttrError):
    """A code does not stand over a grammar, or two grammars have not one shape."""

    def __init__(self, rule):
        self.rule = rule


class NoPaper(AttrError):
    """What was handed in for a part of a paper is none."""

    def __init__(self, part, index):
        self.part = part
        self.index = index


class NoRows(AttrError):
    """A width, a size, a row or a collection of rows is none."""

    def __init__(self, part, index):
        self.part = part
        self.index = index


class NoRecipe(AttrError):
    """A value is no recipe."""

    def __init__(self, index):
        self.index = index


class NoAutomaton(AttrError):
    """A value is no automaton."""


class NoSplit(AttrError):
    """A split grammar would have too many kinds, or too many rules or none."""

    def __init__(self, part):
        self.part = part


class NoText(AttrError):
    """A text is not that of a grammar, a tree or a context."""

    def __init__(self, row):
        self.row = row


class NoForm(AttrError):
    """A value is no form."""

    def __init__(self, index):
        self.index = index


class NoState(AttrError):
    """A value is no tuple of attributes."""

    def __init__(self, index):
        self.index = index


class ManyUnknowns(AttrError):
    """A tree has too many unknown numbers."""

    def __init__(self, number):
        self.number = number


class NotOnce(AttrError):
    """An unknown number does not stand just once in a tree."""

    def __init__(self, name):
        self.name = name


class NoNumbers(AttrError):
    """A value does not tell the numbers that are needed."""

    def __init__(self, index):
        self.index = index


class NoPath(AttrError):
    """A value is not the path of a node."""

    def __init__(self, path):
        self.path = path


class LargeTree(AttrError):
    """A document would have too many nodes."""

    def __init__(self, nodes):
        self.nodes = nodes


class NoRule(AttrError):
    """A value is not the name of a rule that fits."""

    def __init__(self, rule):
        self.rule = rule


class NoCount(AttrError):
    """A number of times, a start or a wish is none."""

    def __init__(self, part):
        self.part = part
