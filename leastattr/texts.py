"""Grammars and trees as texts."""

from leastattr.checks import is_between, is_integers, is_name, is_sequence, is_tuple
from leastattr.errors import NoText, NoTree
from leastattr.grammars import Grammar
from leastattr.steps import HOLE, MOST_STEPS

FIGURES = "0123456789"
HOLE_WORD = "?"
BETWEEN_STEPS = "; "


class Rows:
    """The rows of a text as lists of words, which are read one by one."""

    def __init__(self, text):
        self.rows = [row.split(" ") for row in text.split("\n")]
        self.at = 0

    def is_at_end(self):
        """Whether all rows are read."""
        return self.at == len(self.rows)

    def begins(self, word):
        """Whether there is a next row and it begins with a word."""
        return not self.is_at_end() and self.rows[self.at][0] == word

    def behind(self, word):
        """The words of the next row behind its first one, which must be this one; raises NoText."""
        self.check(self.begins(word))
        return self.rows[self.at][1:]

    def check(self, is_right):
        """Raises NoText if the next row is not right."""
        if not is_right:
            raise NoText(self.at)

    def move(self):
        """Leaves the next row behind."""
        self.at += 1


def grammar_text(grammar):
    """The text of a grammar."""
    rows = [["width", str(grammar.width)]]
    attributes = {}
    for name, own in grammar.kinds:
        attributes[name] = own
        rows.append(["kind", name] + list(own))
    for name, kind, children, numbers, values in grammar.rules:
        rows.append(["rule", name, kind, str(numbers)] + list(children))
        inner = [attributes[child] for child in children]
        for attribute, terms in zip(attributes[kind], values):
            told = " + ".join([term_text(term, inner) for term in terms])
            rows.append([attribute, "="] + ([told] if told else []))
    rows.append(["top", grammar.top])
    for answer in grammar.answers:
        rows.append(["answer"] + [str(number) for number in answer])
    return "\n".join([" ".join(row) for row in rows])


def term_text(term, inner):
    """The text of a term; inner has the attributes of each child."""
    factor, picks, number = term
    parts = [str(factor)]
    for index, pick in enumerate(picks):
        if pick != -1:
            parts.append(str(index) + "." + inner[index][pick])
    if number != -1:
        parts.append("#" + str(number))
    return "*".join(parts)


def read_grammar(text):
    """The grammar of a text."""
    if not isinstance(text, str):
        raise NoText(-1)
    rows = Rows(text)
    width = read_width(rows)
    kinds = read_kinds(rows)
    rules = read_rules(rows, kinds)
    top = read_top(rows, kinds)
    answers = read_answers(rows, len(kinds[top]))
    return Grammar(width, [(name, kinds[name]) for name in kinds], rules, top, answers)


def read_width(rows):
    """The width that the next row tells."""
    words = rows.behind("width")
    rows.check(len(words) == 1 and is_number(words[0]))
    rows.move()
    return int(words[0])


def read_kinds(rows):
    """A dict from the names of the kinds that the next rows tell to their attributes."""
    kinds = {}
    while len(kinds) == 0 or rows.begins("kind"):
        words = rows.behind("kind")
        rows.check(len(words) >= 2 and all([is_name(word) for word in words]))
        rows.check(words[0] not in kinds and len(set(words[1:])) == len(words[1:]))
        kinds[words[0]] = tuple(words[1:])
        rows.move()
    return kinds


def read_rules(rows, kinds):
    """The list of the rules that the next rows tell."""
    rules = {}
    while len(rules) == 0 or rows.begins("rule"):
        words = rows.behind("rule")
        rows.check(len(words) >= 3 and is_name(words[0]) and words[0] not in rules)
        name, kind, numbers = words[:3]
        children = words[3:]
        rows.check(is_whole(numbers) and all([child in kinds for child in [kind] + children]))
        rows.move()
        inner = [kinds[child] for child in children]
        values = [read_sum(rows, attribute, inner) for attribute in kinds[kind]]
        rules[name] = (name, kind, tuple(children), int(numbers), tuple(values))
    return [rules[name] for name in rules]


def read_sum(rows, attribute, inner):
    """The sum that the next row tells for an attribute; inner has the attributes of each child."""
    words = rows.behind(attribute)
    rows.check(words[:1] == ["="] and (len(words) == 1 or len(words) // 2 * 2 == len(words)))
    rows.check(all([word == "+" for word in words[2::2]]))
    terms = [read_term(word, inner) for word in words[1::2]]
    rows.check(None not in terms)
    rows.move()
    return tuple(terms)


def read_term(word, inner):
    """The term that a word tells, None for what tells none; inner has the attributes of each child."""
    parts = word.split("*")
    if not is_number(parts[0]):
        return None
    number = -1
    if parts[-1].startswith("#"):
        if not is_whole(parts[-1][1:]):
            return None
        number = int(parts[-1][1:])
        parts = parts[:-1]
    picks = [-1] * len(inner)
    last = -1
    for part in parts[1:]:
        index, _, attribute = part.partition(".")
        if not is_whole(index) or not last < int(index) < len(inner) or attribute not in inner[int(index)]:
            return None
        last = int(index)
        picks[last] = inner[last].index(attribute)
    return int(parts[0]), tuple(picks), number


def read_top(rows, kinds):
    """The top kind that the next row tells."""
    words = rows.behind("top")
    rows.check(len(words) == 1 and words[0] in kinds)
    rows.move()
    return words[0]


def read_answers(rows, size):
    """The list of the forms over so many attributes that all rows that are left tell."""
    answers = []
    while len(answers) == 0 or not rows.is_at_end():
        words = rows.behind("answer")
        rows.check(len(words) == size + 1 and all([is_number(word) for word in words]))
        answers.append(tuple([int(word) for word in words]))
        rows.move()
    return answers


def is_whole(word):
    """Whether a word is an integer from 0 on, without needless zeros."""
    if len(word) == 0 or not all([sign in FIGURES for sign in word]):
        return False
    return word == "0" or word[0] != "0"


def is_number(word):
    """Whether a word is an integer, without needless zeros, and with a - ahead if it is below 0."""
    if word.startswith("-"):
        return is_whole(word[1:]) and word != "-0"
    return is_whole(word)


def tree_text(tree):
    """The text of the steps of a tree or context."""
    if not is_sequence(tree, 1, MOST_STEPS):
        raise NoTree(-1)
    words = []
    has_hole = False
    for index, item in enumerate(tree):
        if is_hole_step(item) and not has_hole:
            has_hole = True
            words.append([HOLE_WORD, item[1]])
        elif is_plain_step(item, index):
            name, places, numbers = item
            told = [str(number) for number in numbers]
            words.append([name] + [str(place) for place in places] + (["#"] + told if told else []))
        else:
            raise NoTree(index)
    return BETWEEN_STEPS.join([" ".join(own) for own in words])


def is_hole_step(thing):
    """Whether a value is a hole of any kind."""
    return is_tuple(thing, 2, 2) and isinstance(thing[0], str) and thing[0] == HOLE and is_name(thing[1])


def is_plain_step(thing, index):
    """Whether a value may be the step of an index, whatever the grammar is."""
    if not is_tuple(thing, 3, 3) or not is_name(thing[0]) or not isinstance(thing[1], tuple):
        return False
    if not all([is_between(place, 0, index - 1) for place in thing[1]]):
        return False
    return isinstance(thing[2], tuple) and is_integers(thing[2], len(thing[2]))


def read_tree(text):
    """The list of the steps of a text."""
    if not isinstance(text, str):
        raise NoText(-1)
    steps = []
    has_hole = False
    for index, part in enumerate(text.split(BETWEEN_STEPS)):
        words = part.split(" ")
        is_hole = words[0] == HOLE_WORD
        step = read_hole(words) if is_hole else read_step(words, index)
        if step is None or index == MOST_STEPS or (is_hole and has_hole):
            raise NoText(index)
        has_hole = has_hole or is_hole
        steps.append(step)
    return steps


def read_hole(words):
    """The hole that some words tell, None for what tells none."""
    return (HOLE, words[1]) if len(words) == 2 and is_name(words[1]) else None


def read_step(words, index):
    """The step of an index that some words tell, None for what tells none."""
    places = words[1:]
    numbers = []
    if "#" in places:
        first = places.index("#")
        numbers = places[first + 1:]
        places = places[:first]
        if len(numbers) == 0:
            return None
    if not is_name(words[0]) or not all([is_whole(word) and int(word) < index for word in places]):
        return None
    if not all([is_number(word) for word in numbers]):
        return None
    return words[0], tuple([int(word) for word in places]), tuple([int(word) for word in numbers])
