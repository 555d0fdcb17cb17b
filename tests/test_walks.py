"""What a loop walks is not what it changes (L23): loops that change more than a list of their own walk a copy.

The rule is taken widely here: names that an assignment gives to each other, or puts into each other, count as names of
one list, and so do a name and what a call was passed whose result the name got.
"""

import ast
import unittest

from tests.test_language import CHANGING, HEAPS, trees

COPIES = ("list", "sorted", "range")
PASSING = ("enumerate", "zip", "reversed")
ADDING = ("append", "extend", "insert", "setdefault", "update")
COMPREHENSIONS = (ast.ListComp, ast.DictComp, ast.SetComp, ast.GeneratorExp)


def name_of_call(node):
    """The bare name of what is called, or None."""
    return node.func.id if isinstance(node.func, ast.Name) else None


def called_name(node):
    """The name of the function or method that is called, or None."""
    return node.func.attr if isinstance(node.func, ast.Attribute) else name_of_call(node)


def walked(node):
    """The expressions that a loop walks, as far as they are no copies that are made on the spot."""
    if isinstance(node, ast.Call) and name_of_call(node) in PASSING:
        return [part for arg in node.args for part in walked(arg)]
    if isinstance(node, ast.Call) and name_of_call(node) in COPIES:
        return []
    return [] if isinstance(node, (ast.Tuple, ast.List, ast.Constant)) else [node]


def loops_of(function):
    """For each loop and comprehension: its line, what it walks that is no copy, and what it does in each turn."""
    told = []
    for node in ast.walk(function):
        if isinstance(node, ast.For):
            told.append((node.lineno, walked(node.iter), node.body))
        if isinstance(node, COMPREHENSIONS):
            parts = [part for part in ast.iter_child_nodes(node) if not isinstance(part, ast.comprehension)]
            told.append((node.lineno, [part for each in node.generators for part in walked(each.iter)], parts))
    return told


def changed(nodes):
    """The expressions that are changed in place there: lists, and attributes and items that are assigned."""
    told = []
    for node in [part for top in nodes for part in ast.walk(top)]:
        if isinstance(node, ast.Call) and isinstance(node.func, ast.Attribute) and node.func.attr in CHANGING:
            told.append(node.func.value)
        if isinstance(node, ast.Call) and name_of_call(node) in HEAPS:
            told.append(node.args[0])
        if isinstance(node, (ast.Subscript, ast.Attribute)) and not isinstance(node.ctx, ast.Load):
            told.append(node)
    return told


def parts_of(node):
    """The expressions of which another one may hold the value, the whole or a part."""
    if isinstance(node, (ast.Attribute, ast.Subscript, ast.Starred)):
        return [node.value]
    if isinstance(node, ast.Call):
        if name_of_call(node) in COPIES + ("tuple", "len"):
            return []
        receiver = [node.func.value] if isinstance(node.func, ast.Attribute) else []
        return [*receiver, *node.args, *[word.value for word in node.keywords]]
    if isinstance(node, (ast.Tuple, ast.List)):
        return node.elts
    if isinstance(node, ast.IfExp):
        return [node.body, node.orelse]
    if isinstance(node, ast.BoolOp):
        return node.values
    return [node.left, node.right] if isinstance(node, ast.BinOp) else []


def held(node):
    """The names and attributes of which an expression may hold the value, the whole or a part; self counts for none."""
    told = {node.attr} if isinstance(node, ast.Attribute) else set()
    if isinstance(node, ast.Name):
        told.add(node.id)
    for part in parts_of(node):
        told |= held(part)
    return told - {"self"}


def base_of(node):
    """The name at the beginning of an expression, and whether an attribute is read on the way; a call ends it."""
    attribute = False
    while isinstance(node, (ast.Attribute, ast.Subscript)):
        attribute = attribute or isinstance(node, ast.Attribute)
        node = node.value
    return (node.id if isinstance(node, ast.Name) else None, attribute)


def named_by(node):
    """The name or attribute that is given something by an assignment to this."""
    while isinstance(node, ast.Subscript):
        node = node.value
    if isinstance(node, ast.Attribute):
        return {node.attr}
    return {node.id} if isinstance(node, ast.Name) else set()


def shared_names(function):
    """Groups of names and attributes that assignments give to each other, or put into each other."""
    groups = []
    for node in ast.walk(function):
        pairs = []
        if isinstance(node, ast.Assign):
            pairs = [(named_by(part), held(node.value)) for target in node.targets
                     for part in (target.elts if isinstance(target, ast.Tuple) else [target])]
        if isinstance(node, ast.Call) and isinstance(node.func, ast.Attribute) and node.func.attr in ADDING:
            pairs = [(named_by(node.func.value), held(arg)) for arg in node.args]
        if isinstance(node, ast.Call) and name_of_call(node) in HEAPS and len(node.args) > 1:
            pairs = [(named_by(node.args[0]), held(node.args[1]))]
        for one, other in pairs:
            if one and other:
                groups.append(one | other)
    told = []
    for group in groups:
        for near in [each for each in told if each & group]:
            told.remove(near)
            group = group | near
        told.append(group)
    return told


def with_shared(names, groups):
    """These names, and all that are in one group with one of them."""
    return names.union(*[group for group in groups if group & names])


def own_lists(function):
    """The local names that are assigned nothing but lists and dicts that are made on the spot."""
    made, other = set(), {node.arg for node in ast.walk(function) if isinstance(node, ast.arg)}
    for node in ast.walk(function):
        if isinstance(node, ast.Assign) and len(node.targets) == 1 and isinstance(node.targets[0], ast.Name):
            value = node.value
            good = isinstance(value, (ast.List, ast.Dict, ast.ListComp, ast.DictComp))
            good = good or (isinstance(value, ast.Call) and name_of_call(value) in COPIES + ("dict",))
            (made if good else other).add(node.targets[0].id)
        elif isinstance(node, ast.Assign):
            other |= {part.id for target in node.targets for part in ast.walk(target)
                      if isinstance(part, ast.Name) and isinstance(part.ctx, ast.Store)}
    return made - other


def rooted(function):
    """The names that stand for what is there behind the function: parameters, and what is read from attributes of them."""
    told = {node.arg for node in ast.walk(function) if isinstance(node, ast.arg)}
    for _ in range(3):
        for node in ast.walk(function):
            if isinstance(node, ast.Assign) and base_of(node.value)[0] in told:
                told |= {part.id for target in node.targets for part in ast.walk(target)
                         if isinstance(part, ast.Name) and isinstance(part.ctx, ast.Store)}
    return told


def touching(functions):
    """The names of the functions that change, themselves or by others, what they are passed or their own object."""
    names = set()
    roots = [(function, rooted(function)) for function in functions if function.name != "__init__"]
    while True:
        more = set(names)
        for function, root in roots:
            bases = {base_of(each)[0] for each in changed(function.body)}
            for node in ast.walk(function):
                if isinstance(node, ast.Call) and called_name(node) in names:
                    given = [*node.args, node.func.value] if isinstance(node.func, ast.Attribute) else node.args
                    bases |= {base_of(each)[0] for each in given}
            if bases & root:
                more.add(function.name)
        if more == names:
            return names
        names = more


def faults(function, touched=()):
    """The lines of the loops that may walk what they change."""
    told = []
    groups = shared_names(function)
    own = own_lists(function)
    root = rooted(function)
    for line, parts, block in loops_of(function):
        if not parts:
            continue
        changes = changed(block)
        near = with_shared({name for part in parts for name in held(part)}, groups)
        one_list = any(near & (held(change) | named_by(change)) for change in changes)
        fields = any(base_of(change)[1] or base_of(change)[0] in root - own for change in changes)
        calls = any(called_name(node) in touched for top in block for node in ast.walk(top) if isinstance(node, ast.Call))
        if one_list or fields or (calls and not all(base_of(part) in [(name, False) for name in own] for part in parts)):
            told.append(line)
    return told


def faults_in(text):
    """The lines of such loops in a text of one function."""
    return faults(ast.parse(text).body[0], touched=("put",))


ISSUE_FIELDS = """def begin(self, store):
    self.kept = store.copy()
    self.codes = {}
    for number, word in enumerate(self.kept.words):
        self.codes[number] = Coded(self.kept.words, number)
"""
ISSUE_NAMES = """def distances(callers, goal):
    far = {goal: 0}
    waiting = [goal]
    while waiting:
        further = []
        for number in waiting:
            further.append(number + 1)
        waiting = further
    return far
"""


class Faults(unittest.TestCase):
    """The search for such loops finds them."""

    def test_fields(self):
        self.assertEqual(faults_in(ISSUE_FIELDS), [4])
        self.assertEqual(faults_in(ISSUE_FIELDS.replace("(self.kept.words):", "(list(self.kept.words)):")), [])
        self.assertEqual(faults_in("def f(a):\n for x in a.rows:\n  a.queue.append(1)"), [2])
        self.assertEqual(faults_in("def f(a, b):\n for x in b:\n  a.n = 1"), [2])
        self.assertEqual(faults_in("def f(a, b):\n m = a.store\n for x in b:\n  m[x] = 1"), [3])
        self.assertEqual(faults_in("def f(a, b):\n for x in b:\n  heappush(a.queue, x)"), [2])
        self.assertEqual(faults_in("def f(a, b):\n for x in b.c[1:]:\n  a[x] = 1"), [2])
        self.assertEqual(faults_in("def f(a, b):\n return [a.rows.append(x) for x in b]"), [2])
        self.assertEqual(faults_in("def f(a, b):\n for x in sorted(b.c):\n  a[x] = 1"), [])
        self.assertEqual(faults_in("def f(a, b):\n for x, y in zip(list(b), range(3)):\n  a.n = x"), [])
        self.assertEqual(faults_in("def f(a, b):\n for x, y in zip(list(b), b.c):\n  a.n = x"), [2])

    def test_names(self):
        self.assertEqual(faults_in(ISSUE_NAMES), [6])
        self.assertEqual(faults_in(ISSUE_NAMES.replace("in waiting:", "in list(waiting):")), [])
        self.assertEqual(faults_in(ISSUE_NAMES.replace("        waiting = further\n", "        break\n")), [])
        self.assertEqual(faults_in("def f():\n a = []\n b = a\n for x in b:\n  a.append(x)"), [4])
        self.assertEqual(faults_in("def f():\n a = []\n b = (a, 1)\n for x in b[0]:\n  a.append(x)"), [4])
        self.assertEqual(faults_in("def f(c):\n b = made(c)\n for x in c.rows:\n  b.extend(x)"), [3])
        self.assertEqual(faults_in("def f(c):\n b = []\n for x in c:\n  b.append(x)\n return b"), [])
        self.assertEqual(faults_in("def f(c):\n b = list(c)\n for x in c:\n  b.append(x)"), [])

    def test_calls(self):
        self.assertEqual(faults_in("def f(a, b):\n for x in a:\n  put(b, x)"), [2])
        self.assertEqual(faults_in("def f(a, b):\n for x in list(a):\n  put(b, x)"), [])
        self.assertEqual(faults_in("def f(a, b):\n c = list(a)\n for x in c:\n  put(b, x)"), [])
        self.assertEqual(faults_in("def f(a, b):\n for x in a:\n  look(b, x)"), [])
        texts = ("def one(a):\n a.n = 1", "def two(a, b):\n one(b.c)", "def three(a):\n b = Box()\n one(b)",
                 "def four(a):\n two(1, a)")
        self.assertEqual(touching([ast.parse(text).body[0] for text in texts]), {"one", "two", "four"})


class Walks(unittest.TestCase):
    def test_no_loop_of_the_package_may_walk_what_it_changes(self):
        functions = [(name, node) for name, tree in trees() for node in ast.walk(tree)
                     if isinstance(node, ast.FunctionDef)]
        touched = touching([function for _, function in functions])
        self.assertTrue({"put_body", "add_word", "advance", "stays", "onward", "define"} <= touched)
        self.assertFalse({"check", "standings", "seen", "fits"} & touched)
        for name, function in functions:
            self.assertEqual(faults(function, touched), [], (name, function.name))


if __name__ == "__main__":
    unittest.main()
