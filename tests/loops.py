"""L23: what a loop or a comprehension walks isn't changed in it, by its name, a field or a choice.

Each thing of a function is known by words: a name, an attribute by ".name", and whatever is taken out of a list
or a dict by "[]" alone, so that two items are taken for one. Names that are given one another's things have one
word in common. What a call makes anew, such as list(..), has no word.
"""

import ast

CHANGING = {"append", "clear", "extend", "insert", "pop", "remove", "reverse", "setdefault", "update", "add", "discard",
            "sort", "appendleft", "popleft", "extendleft", "rotate"}
HEAPS = {"heappush", "heappop", "heapify", "heapreplace", "heappushpop"}
# Calls that hand on what they are passed, or an item of what they are read off.
THROUGH = {"enumerate", "zip", "reversed", "iter", "map"}
VIEWS = {"items", "keys", "values"}
ITEMS = {"get", "setdefault", "pop"}
LOOPS = (ast.For, ast.ListComp, ast.DictComp, ast.SetComp, ast.GeneratorExp)


def words(node):
    """The words of all things that the expression may be."""
    if isinstance(node, ast.Name):
        return {node.id}
    if isinstance(node, ast.Attribute):
        return {"." + node.attr}
    if isinstance(node, ast.Subscript):
        # A slice is a new list.
        return set() if isinstance(node.slice, ast.Slice) else {"[]"}
    if isinstance(node, ast.IfExp):
        return words(node.body) | words(node.orelse)
    if isinstance(node, ast.BoolOp):
        return set().union(*map(words, node.values))
    if isinstance(node, ast.NamedExpr):
        return words(node.value) | words(node.target)
    if isinstance(node, ast.Starred):
        return words(node.value)
    if isinstance(node, ast.Call) and isinstance(node.func, ast.Attribute):
        return words(node.func.value) if node.func.attr in VIEWS else {"[]"} if node.func.attr in ITEMS else set()
    if isinstance(node, ast.Call) and isinstance(node.func, ast.Name) and node.func.id in THROUGH:
        return set().union(*map(words, node.args), set())
    return set()


def names_in(target):
    return {node.id for node in ast.walk(target) if isinstance(node, ast.Name)}


class Aliases:
    """Which words of a function stand for one thing."""

    def __init__(self, function):
        self.above = {}
        for node in ast.walk(function):
            if isinstance(node, ast.Assign):
                for target in node.targets:
                    self.given(target, node.value)
            elif isinstance(node, ast.For) or isinstance(node, ast.comprehension):
                self.join(names_in(node.target) | {"[]"})
            elif isinstance(node, ast.Call) and isinstance(node.func, ast.Attribute) and node.func.attr in CHANGING:
                for value in node.args:
                    self.join(words(value) | {"[]"} if words(value) else set())

    def given(self, target, value):
        if isinstance(target, ast.Name):
            self.join({target.id} | words(value))
        elif isinstance(target, (ast.Tuple, ast.List)):
            values = value.elts if isinstance(value, (ast.Tuple, ast.List)) else [None] * len(target.elts)
            for one, other in zip(target.elts, values):
                if other is not None:
                    self.given(one, other)
                else:
                    self.join(names_in(one) | {"[]"})
        elif words(value):
            self.join(words(target) | words(value))

    def root(self, word):
        while word in self.above:
            word = self.above[word]
        return word

    def join(self, those):
        roots = sorted({self.root(word) for word in those})
        for other in roots[1:]:
            self.above[other] = roots[0]

    def meet(self, one, other):
        return {self.root(word) for word in one} & {self.root(word) for word in other}


def changes(node):
    """The words of what a statement or a call changes."""
    if isinstance(node, ast.Call) and isinstance(node.func, ast.Attribute) and node.func.attr in CHANGING:
        return words(node.func.value)
    if isinstance(node, ast.Call) and isinstance(node.func, ast.Name) and node.func.id in HEAPS:
        return words(node.args[0])
    targets = []
    if isinstance(node, (ast.Assign, ast.Delete)):
        targets = node.targets
    elif isinstance(node, ast.AugAssign):
        targets = [node.target]
        if isinstance(node.target, ast.Name):
            return {node.target.id}
    inner = [part for target in targets for part in ast.walk(target)]
    return set().union(*[words(part.value) for part in inner if isinstance(part, ast.Subscript)], set())


def walked(loop):
    """The words of what a loop, or all that a comprehension, walks."""
    heads = [loop.iter] if isinstance(loop, ast.For) else [part.iter for part in loop.generators]
    return set().union(*map(words, heads))


def slips(tree):
    """The rows at which a function of the tree changes what a loop walks."""
    found = set()
    for function in ast.walk(tree):
        if not isinstance(function, ast.FunctionDef):
            continue
        aliases = Aliases(function)
        for loop in ast.walk(function):
            if isinstance(loop, LOOPS):
                rows = loop.body if isinstance(loop, ast.For) else [loop]
                for node in [inner for row in rows for inner in ast.walk(row)]:
                    if aliases.meet(walked(loop), changes(node)):
                        found.add(node.lineno)
    return sorted(found)
