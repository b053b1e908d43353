"""Finds the loops of a function that change what they go over, by whichever name, attribute, item or choice.

A place is what names, attributes and items spell, such as rows, self.rows or rows[]: for all items of rows one place
stands."""

import ast

CHANGING = "add append clear discard extend insert pop popitem remove reverse setdefault sort update".split()
HEAP_CHANGING = ("heapify", "heappop", "heappush")
ITEM_TAKING = ("get", "pop", "setdefault")
ONE_BY_ONE = ("enumerate", "iter", "list", "reversed", "sorted", "tuple")
ON_THE_SPOT = ("enumerate", "iter", "reversed", "zip")
VIEWS = ("items", "keys", "values")
COMPREHENSIONS = (ast.ListComp, ast.SetComp, ast.DictComp, ast.GeneratorExp)
DEEPEST = 5


def is_call(node, names):
    """Whether node calls a function of one of these names."""
    return isinstance(node, ast.Call) and isinstance(node.func, ast.Name) and node.func.id in names


def is_method_call(node, names):
    """Whether node calls a method of one of these names."""
    return isinstance(node, ast.Call) and isinstance(node.func, ast.Attribute) and node.func.attr in names


def places_of(node):
    """The places that may be the value of node; none for what is made there."""
    if isinstance(node, ast.Name):
        return [node.id]
    if isinstance(node, ast.Attribute):
        return [place + "." + node.attr for place in places_of(node.value)]
    if isinstance(node, ast.Subscript) and not isinstance(node.slice, ast.Slice):
        return [place + "[]" for place in places_of(node.value)]
    if isinstance(node, ast.IfExp):
        return places_of(node.body) + places_of(node.orelse)
    if isinstance(node, ast.BoolOp):
        return [place for value in node.values for place in places_of(value)]
    if is_method_call(node, ITEM_TAKING):
        own = [place + "[]" for place in places_of(node.func.value)]
        return own + [place for value in node.args[1:] for place in places_of(value)]
    return []


def items_of(node):
    """The places that may be an item of the value of node."""
    if is_call(node, ONE_BY_ONE):
        return items_of(node.args[0])
    if isinstance(node, (ast.Tuple, ast.List)):
        return [place for value in node.elts for place in places_of(value)]
    if isinstance(node, ast.Dict):
        return [place for value in node.values for place in places_of(value)]
    if isinstance(node, ast.Subscript) and isinstance(node.slice, ast.Slice):
        return items_of(node.value)
    if isinstance(node, (ast.ListComp, ast.GeneratorExp)):
        return places_of(node.elt)
    if isinstance(node, ast.DictComp):
        return places_of(node.value)
    if is_method_call(node, VIEWS):
        return [place + "[]" for place in places_of(node.func.value)]
    return [place + "[]" for place in places_of(node)]


def pairs_of_target(target, value):
    """Pairs of places of which one gets its value from the other, where target gets that of value."""
    if isinstance(target, (ast.Tuple, ast.List)) and isinstance(value, (ast.Tuple, ast.List)):
        return [pair for each, other in zip(target.elts, value.elts) for pair in pairs_of_target(each, other)]
    if isinstance(target, (ast.Tuple, ast.List)):
        return [(place, item) for each in target.elts for place in places_of(each) for item in items_of(value)]
    pairs = [(place, other) for place in places_of(target) for other in places_of(value)]
    return pairs + [(place + "[]", item) for place in places_of(target) for item in items_of(value)]


def pairs_of_loop(target, walked):
    """Pairs of places of which one gets its value from the other, where target goes over the items of walked."""
    if is_call(walked, ("enumerate",)) and isinstance(target, ast.Tuple):
        return pairs_of_loop(target.elts[1], walked.args[0])
    if is_call(walked, ("zip",)) and isinstance(target, ast.Tuple):
        return [pair for each, other in zip(target.elts, walked.args) for pair in pairs_of_loop(each, other)]
    if is_method_call(walked, ("items",)) and isinstance(target, ast.Tuple):
        return pairs_of_loop(target.elts[1], walked.func.value)
    if isinstance(target, ast.Tuple):
        return [(place, item + "[]") for each in target.elts for place in places_of(each) for item in items_of(walked)]
    return [(place, item) for place in places_of(target) for item in items_of(walked)]


def pairs_of_further(owner, value):
    """Pairs of places of which one gets its value from the other, where owner gets the items of value."""
    return [(place + "[]", item) for place in places_of(owner) for item in items_of(value)]


def pairs_of(function):
    """All pairs of places of a function of which one may get its value from the other."""
    pairs = []
    for node in ast.walk(function):
        if isinstance(node, ast.Assign):
            pairs += [pair for target in node.targets for pair in pairs_of_target(target, node.value)]
        if isinstance(node, (ast.For, ast.comprehension)):
            pairs += pairs_of_loop(node.target, node.iter)
        if is_method_call(node, ("append", "insert", "setdefault")) and node.args:
            pairs += pairs_of_target(ast.Subscript(node.func.value, ast.Constant(0)), node.args[-1])
        if is_method_call(node, ("extend", "update")) and node.args:
            pairs += pairs_of_further(node.func.value, node.args[0])
        if isinstance(node, ast.AugAssign):
            pairs += pairs_of_further(node.target, node.value)
    return pairs


def names_of(place, pairs):
    """All places that may be the same value as this one."""
    found = [place]
    for known in found:
        for pair in pairs:
            for one, other in (pair, pair[::-1]):
                if known == one or known.startswith((one + ".", one + "[")):
                    named = other + known[len(one):]
                    if named not in found and named.count("[") + named.count(".") <= DEEPEST:
                        found.append(named)
    return found


def walked_places(node):
    """The places over which a loop goes whose head says node; none for a list that is made there."""
    if is_call(node, ON_THE_SPOT):
        return [place for value in node.args for place in walked_places(value)]
    if is_method_call(node, VIEWS):
        return places_of(node.func.value)
    return places_of(node)


def changed_places(node):
    """The places whose values change where node stands."""
    if is_method_call(node, CHANGING):
        return places_of(node.func.value)
    if is_call(node, HEAP_CHANGING):
        return places_of(node.args[0])
    if isinstance(node, ast.AugAssign) and not isinstance(node.target, ast.Subscript):
        return places_of(node.target)
    targets = [node.target] if isinstance(node, ast.AugAssign) else getattr(node, "targets", [])
    return [place for target in targets if isinstance(target, ast.Subscript) for place in places_of(target.value)]


def loops_of(function):
    """The loops of a function, each with the rows of what it goes over and with what stands in it."""
    found = []
    for node in ast.walk(function):
        if isinstance(node, ast.For):
            found.append((node.iter, node.body))
        if isinstance(node, COMPREHENSIONS):
            found += [(each.iter, [node]) for each in node.generators]
    return found


def changing_loops(code):
    """The rows of the loops in code that may change what they go over."""
    rows = []
    for function in ast.walk(ast.parse(code)):
        if isinstance(function, ast.FunctionDef):
            pairs = pairs_of(function)
            for walked, body in loops_of(function):
                changed = [place for step in body for node in ast.walk(step) for place in changed_places(node)]
                names = [name for place in walked_places(walked) for name in names_of(place, pairs)]
                if any(place in names for place in changed):
                    rows.append(walked.lineno)
    return sorted(rows)
