"""Documents: trees that are edited, and what is reckoned anew."""

from leastattr.checks import first_wrong, is_between
from leastattr.codes import check_over
from leastattr.errors import LargeTree, NoNumbers, NoPath, NotTop, WrongKind
from leastattr.grammars import Grammar
from leastattr.steps import HOLE, checked_tree, node_counts, rule_table, step_times
from leastattr.sums import form_value, reduced
from leastattr.systems import code_system, grammar_system

MOST_NODES = 1000


class Node:
    """A node of a document: the name of its rule, its numbers as they were handed in, its children, its state."""

    def __init__(self, rule, numbers, children, state):
        self.rule = rule
        self.numbers = numbers
        self.children = children
        self.state = state


class Change:
    """A node that was put in the place of another one, at a path, and how many nodes it brought."""

    def __init__(self, path, old, new, more):
        self.path = path
        self.old = old
        self.new = new
        self.more = more


class Document:
    """A tree of the top kind that is edited; states are attributes, or the registers of a code if there is one."""

    def __init__(self, grammar, tree, *, code=None):
        kinds = checked_tree(grammar, tree)
        nodes = node_counts(tree)[-1]
        if nodes > MOST_NODES:
            raise LargeTree(nodes)
        if kinds[-1] != grammar.top:
            raise NotTop(kinds[-1])
        if code is not None:
            check_over(grammar, code)
        self._grammar = Grammar(grammar.width, grammar.kinds, grammar.rules, grammar.top, grammar.answers)
        system = grammar_system(grammar) if code is None else code_system(code)
        self._rules = {rule[0]: system.rules[at] for at, rule in enumerate(grammar.rules)}
        self._kinds = {rule[0]: rule[1] for rule in grammar.rules}
        self._answers = grammar.answers if code is None else code.answers
        self._root = self._planted(tree)
        self._nodes = nodes
        self._done = []
        self._undone = []

    def node_count(self):
        """The number of nodes."""
        return self._nodes

    def kind_at(self, path):
        """The kind of a node."""
        return self._kinds[self._line(path)[-1].rule]

    def state_at(self, path):
        """The tuple of the attributes of a node, or of its registers if there is a code."""
        return self._line(path)[-1].state

    def answers_now(self):
        """The list of the answers."""
        return [form_value(form, self._root.state, self._grammar.width) for form in self._answers]

    def tree_at(self, path):
        """The tree from a node on, with one step for each node."""
        return self._steps(self._line(path)[-1], None)

    def context_at(self, path):
        """The context that the tree is if a node is a hole, with one step for each other node."""
        return self._steps(self._root, self._line(path)[-1])

    def put_tree(self, path, tree):
        """Puts a tree in the place of the one from a node on; returns how many nodes are reckoned anew."""
        old = self._line(path)[-1]
        kind = checked_tree(self._grammar, tree)[-1]
        if kind != self._kinds[old.rule]:
            raise WrongKind(kind)
        own = node_counts(tree)[-1]
        more = own - len(nodes_from(old, None))
        if self._nodes + more > MOST_NODES:
            raise LargeTree(self._nodes + more)
        return own + self._change(Change(path, old, self._planted(tree), more))

    def put_numbers(self, path, numbers):
        """Puts numbers in the place of those at a node; returns how many nodes are reckoned anew."""
        old = self._line(path)[-1]
        wrong = first_wrong(numbers, len(old.numbers))
        if wrong is not None:
            raise NoNumbers(wrong)
        new = Node(old.rule, tuple(numbers), list(old.children), ())
        new.state = self._reckoned(new)
        return 1 + self._change(Change(path, old, new, 0))

    def undo(self):
        """Takes back the last change that is not yet taken back; returns whether there was one."""
        if len(self._done) == 0:
            return False
        change = self._done.pop()
        self._replace(change.path, change.old)
        self._nodes -= change.more
        self._undone.append(change)
        return True

    def redo(self):
        """Does again the last change that was taken back; returns whether there was one."""
        if len(self._undone) == 0:
            return False
        change = self._undone.pop()
        self._replace(change.path, change.new)
        self._nodes += change.more
        self._done.append(change)
        return True

    def _change(self, change):
        """Makes a new change; returns how many nodes above it are reckoned anew."""
        self._done.append(change)
        self._undone = []
        self._nodes += change.more
        return self._replace(change.path, change.new)

    def _replace(self, path, node):
        """Puts a node in the place of the one at a path; returns how many nodes above it are reckoned anew."""
        line = self._line(path)
        if len(path) == 0:
            self._root = node
        else:
            parent = line[-2]
            parent.children[path[-1]] = node
        reckoned = 0
        is_other = node.state != line[-1].state
        for above in line[:-1][::-1]:
            if not is_other:
                break
            state = self._reckoned(above)
            is_other = state != above.state
            above.state = state
            reckoned += 1
        return reckoned

    def _reckoned(self, node):
        """The state of a node from those of its children."""
        numbers = reduced(node.numbers, self._grammar.width)
        return self._rules[node.rule].reckoned([child.state for child in node.children], numbers)

    def _planted(self, tree):
        """The root of a tree with a node for each time that a step stands in it."""
        rules = rule_table(self._grammar)
        times = step_times(tree)
        states = []
        for at, (name, places, numbers) in enumerate(tree):
            if times[at] == 0:
                states.append(())
            else:
                children = [states[place] for place in places]
                states.append(self._rules[name].reckoned(children, reduced(numbers, self._grammar.width)))
        root = Node(tree[-1][0], tree[-1][2], [], states[-1])
        waiting = [(root, len(tree) - 1)]
        while waiting:
            node, at = waiting.pop()
            for place in tree[at][1]:
                child = Node(tree[place][0], tree[place][2], [], states[place])
                node.children.append(child)
                waiting.append((child, place))
        return root

    def _line(self, path):
        """The list of the nodes from the root to the one at a path; raises NoPath."""
        if not isinstance(path, tuple):
            raise NoPath(path)
        line = [self._root]
        for index in path:
            children = line[-1].children
            if not is_between(index, 0, len(children) - 1):
                raise NoPath(path)
            line.append(children[index])
        return line

    def _steps(self, root, hole):
        """The list of the steps from a node on, one for each node, those of children ahead; a hole may be told."""
        steps = []
        roots = []
        for node in nodes_from(root, hole):
            if node == hole:
                steps.append((HOLE, self._kinds[node.rule]))
            else:
                first = len(roots) - len(node.children)
                steps.append((node.rule, tuple(roots[first:]), node.numbers))
                del roots[first:]
            roots.append(len(steps) - 1)
        return steps


def nodes_from(root, hole):
    """The list of the nodes from a node on, each behind those of its children in order; none behind a hole."""
    found = []
    waiting = [root]
    while waiting:
        node = waiting.pop()
        found.append(node)
        if node != hole:
            waiting.extend(node.children)
    return found[::-1]
