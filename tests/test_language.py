"""The rules of the language that can be looked at from outside, for every file of the package."""

import ast
import os
import unittest

import wordmint

FOLDER = os.path.dirname(wordmint.__file__)
FILES = sorted(name for name in os.listdir(FOLDER) if name != "__pycache__")
LIBRARY = {"heapq": ("heappush", "heappop", "heapify", "heapreplace", "heappushpop")}
BUILTINS = """len range enumerate zip min max sum abs sorted reversed int str bool list tuple dict set isinstance ord repr
    any all divmod iter next Exception ValueError TypeError KeyError IndexError LookupError ZeroDivisionError
    ArithmeticError OverflowError RuntimeError NotImplementedError NotImplemented super""".split()
METHODS = """append clear copy count endswith extend find get index insert isalnum isalpha isdigit islower isspace isupper
    items join keys ljust lower lstrip partition pop remove replace reverse rfind rjust rpartition rsplit rstrip
    setdefault split splitlines startswith strip update upper values zfill bit_length title capitalize swapcase casefold
    center expandtabs removeprefix removesuffix rindex isascii isdecimal isprintable translate add discard""".split()
# Attributes that hold objects which are called.
CALLED = ["earlier", "later"]
DUNDERS = """__init__ __eq__ __repr__ __str__ __len__ __enter__ __exit__ __call__ __iter__ __lt__ __le__ __gt__ __ge__ __ne__
    __add__ __bool__ __contains__ __getitem__ __setitem__""".split()
NEVER = "register mro elements open input law version_info with_traceback add_note".split()
NO_NAMES = """attrgetter breakpoint builtins compile copyright credits delattr dir eval exec exit gc getattr globals hasattr
    help id importlib license locals methodcaller os quit setattr super type vars sys filter format hash map object print
    property round staticmethod classmethod callable chr hex bin oct pow slice bytes bytearray memoryview frozenset
    float complex""".split()
BUILTIN_ATTRIBUTES = "items keys values pop update append clear extend insert remove reverse setdefault sort args encode decode hex fromhex format".split()
ALLOWED_ERRORS = ("KeyError", "ZeroDivisionError")
FORBIDDEN = (ast.AsyncFunctionDef, ast.Await, ast.AsyncFor, ast.AsyncWith, ast.Global, ast.AnnAssign, ast.Import,
             ast.Div, ast.MatMult, ast.Lambda, ast.SetComp, ast.Set, ast.YieldFrom, ast.Nonlocal)


def source_of(name):
    with open(os.path.join(FOLDER, name), encoding="utf-8") as file:
        return file.read()


def trees():
    return [(name, ast.parse(source_of(name))) for name in FILES]


def with_parents(tree):
    """All nodes, each with the attribute parent."""
    nodes = list(ast.walk(tree))
    for node in nodes:
        for child in ast.iter_child_nodes(node):
            child.parent = node
    return nodes


def docstrings(tree):
    told = []
    for node in ast.walk(tree):
        if isinstance(node, (ast.Module, ast.ClassDef, ast.FunctionDef)) and ast.get_docstring(node) is not None:
            told.append(node.body[0].value)
    return told


def is_plain(node, functions):
    """Whether a value at module level is a plain one."""
    if isinstance(node, ast.Constant):
        return not isinstance(node.value, (float, complex))
    if isinstance(node, ast.UnaryOp) and isinstance(node.op, ast.USub):
        return isinstance(node.operand, ast.Constant)
    if isinstance(node, ast.Name):
        return node.id in functions
    if isinstance(node, (ast.Tuple, ast.List)):
        return all(is_plain(part, functions) and not isinstance(part, (ast.List, ast.Dict)) for part in node.elts)
    if isinstance(node, ast.Dict):
        parts = node.keys + node.values
        return all(is_plain(part, functions) and not isinstance(part, (ast.List, ast.Dict)) for part in parts)
    return False


CHANGING = "append clear extend insert pop remove reverse setdefault update add discard put".split()
HEAPS = LIBRARY["heapq"]


def last_name(node):
    """The name of what an expression stands for, or of the field, with indexes and slices taken off."""
    while isinstance(node, ast.Subscript):
        node = node.value
    if isinstance(node, ast.Attribute):
        return node.attr
    return node.id if isinstance(node, ast.Name) else None


def walked_names(node):
    """The names of what a loop walks, as far as it is no copy that is made on the spot."""
    if isinstance(node, ast.Call):
        if isinstance(node.func, ast.Attribute) and node.func.attr in ("items", "keys", "values"):
            return walked_names(node.func.value)
        if isinstance(node.func, ast.Name) and node.func.id in ("enumerate", "zip", "reversed"):
            return {name for arg in node.args for name in walked_names(arg)}
        return set()
    if isinstance(node, ast.IfExp):
        return walked_names(node.body) | walked_names(node.orelse)
    if isinstance(node, ast.BoolOp):
        return {name for value in node.values for name in walked_names(value)}
    return {last_name(node)} - {None}


def changed_names(nodes):
    """The names of all that is changed in these statements or expressions."""
    told = set()
    for node in [part for top in nodes for part in ast.walk(top)]:
        if isinstance(node, ast.Call):
            if isinstance(node.func, ast.Attribute) and node.func.attr in CHANGING:
                told.add(last_name(node.func.value))
            if isinstance(node.func, ast.Name) and node.func.id in HEAPS:
                told.add(last_name(node.args[0]))
        if isinstance(node, ast.Subscript) and not isinstance(node.ctx, ast.Load):
            told.add(last_name(node))
        if isinstance(node, (ast.Attribute, ast.Name)) and isinstance(node.ctx, (ast.Store, ast.Del)):
            told.add(last_name(node))
    return told


def without_index(node):
    """What an expression is an item or a part of, or itself."""
    while isinstance(node, ast.Subscript):
        node = node.value
    return node


def loops_of(function):
    """For each loop and comprehension: what it walks, what it does in each turn, and its line."""
    told = []
    for node in ast.walk(function):
        if isinstance(node, ast.For):
            told.append(([node.iter], node.body, node.lineno))
        if isinstance(node, (ast.ListComp, ast.DictComp, ast.SetComp, ast.GeneratorExp)):
            parts = [part for part in ast.iter_child_nodes(node) if not isinstance(part, ast.comprehension)]
            told.append(([part.iter for part in node.generators], parts, node.lineno))
    return told


def attributes_of(node, origins):
    """The attributes that an expression is, is a part of, or chooses from, also by way of local names."""
    if isinstance(node, ast.Call):
        if isinstance(node.func, ast.Attribute) and node.func.attr in ("items", "keys", "values"):
            return attributes_of(node.func.value, origins)
        if isinstance(node.func, ast.Name) and node.func.id in ("enumerate", "zip", "reversed"):
            return {name for arg in node.args for name in attributes_of(arg, origins)}
        return set()
    if isinstance(node, ast.IfExp):
        return attributes_of(node.body, origins) | attributes_of(node.orelse, origins)
    if isinstance(node, ast.BoolOp):
        return {name for value in node.values for name in attributes_of(value, origins)}
    node = without_index(node)
    if isinstance(node, ast.Attribute):
        return {node.attr}
    return origins.get(node.id, set()) if isinstance(node, ast.Name) else set()


def origins_of(function):
    """For each name and attribute that a function assigns the attributes that it was assigned, or parts of which."""
    origins = {}
    for _ in range(3):
        for node in ast.walk(function):
            if isinstance(node, ast.Assign):
                for target in node.targets:
                    if isinstance(target, (ast.Name, ast.Attribute)):
                        told = attributes_of(node.value, origins)
                        origins.setdefault(last_name(target), set()).update(told)
    return origins


def mutated_names(nodes):
    """The names of all that is changed there in place; a name that is only assigned anew is none of them."""
    told = set()
    for node in [part for top in nodes for part in ast.walk(top)]:
        if isinstance(node, ast.Call) and isinstance(node.func, ast.Attribute) and node.func.attr in CHANGING:
            told.add(last_name(node.func.value))
        if isinstance(node, ast.Call) and isinstance(node.func, ast.Name) and node.func.id in HEAPS:
            told.add(last_name(node.args[0]))
        if isinstance(node, (ast.Subscript, ast.Attribute)) and not isinstance(node.ctx, ast.Load):
            told.add(last_name(node))
        if isinstance(node, ast.AugAssign) and not isinstance(node.value, ast.Constant):
            told.add(last_name(node.target))
    return told


def own_methods():
    return {node.name for _, tree in trees() for part in ast.walk(tree) if isinstance(part, ast.ClassDef)
            for node in part.body if isinstance(node, ast.FunctionDef)}


def own_classes():
    return {node.name for _, tree in trees() for node in tree.body if isinstance(node, ast.ClassDef)}


class Files(unittest.TestCase):
    def test_names_and_sizes(self):
        self.assertIn("__init__.py", FILES)
        self.assertLessEqual(len(FILES), 100)
        for name in FILES:
            self.assertTrue(name.endswith(".py") and name == name.lower(), name)
            text = source_of(name)
            self.assertLessEqual(len(text.split("\n")) - 1, 399, name)
            for number, line in enumerate(text.split("\n")):
                self.assertLessEqual(len(line), 120, (name, number))
                self.assertTrue(all(" " <= sign <= "~" for sign in line), (name, number))
                self.assertEqual(line, line.rstrip(), (name, number))

    def test_functions_are_small(self):
        for name, tree in trees():
            for node in ast.walk(tree):
                if isinstance(node, ast.FunctionDef):
                    self.assertLessEqual(node.end_lineno - node.lineno + 1, 40, (name, node.name))
                    self.assertIsNotNone(ast.get_docstring(node) or node.name.startswith("__") or None,
                                         (name, node.name))

    def test_module_level(self):
        for name, tree in trees():
            functions = []
            imports_may_come = True
            for place, node in enumerate(tree.body):
                if isinstance(node, ast.Expr):
                    self.assertTrue(place == 0 and isinstance(node.value, ast.Constant), name)
                elif isinstance(node, ast.ImportFrom):
                    self.assertTrue(imports_may_come, name)
                    continue
                elif isinstance(node, ast.FunctionDef):
                    functions.append(node.name)
                elif isinstance(node, ast.Assign):
                    self.assertEqual(len(node.targets), 1, name)
                    self.assertIsInstance(node.targets[0], ast.Name)
                    self.assertTrue(is_plain(node.value, functions), (name, node.targets[0].id))
                else:
                    self.assertIsInstance(node, ast.ClassDef, name)
                imports_may_come = imports_may_come and isinstance(node, ast.Expr)

    def test_imports(self):
        defined = {}
        edges = {}
        for name, tree in trees():
            module = "wordmint." + name[:-3]
            defined[module] = set()
            for node in tree.body:
                if isinstance(node, (ast.FunctionDef, ast.ClassDef)):
                    defined[module].add(node.name)
                if isinstance(node, ast.Assign):
                    defined[module].add(node.targets[0].id)
        for name, tree in trees():
            module = "wordmint." + name[:-3]
            edges[module] = []
            used = {node.id for node in ast.walk(tree) if isinstance(node, ast.Name)}
            for node in tree.body:
                if isinstance(node, ast.ImportFrom):
                    self.assertEqual(node.level, 0)
                    names = [part.name for part in node.names]
                    self.assertTrue(all(part.asname is None for part in node.names), name)
                    self.assertEqual([each for each in names if each not in used], [], name)
                    if node.module in LIBRARY:
                        self.assertTrue(set(names) <= set(LIBRARY[node.module]), name)
                    else:
                        self.assertTrue(set(names) <= defined[node.module], (name, node.module))
                        edges[module].append(node.module)
        left = dict(edges)
        while left:
            free = [module for module in left if not [other for other in left[module] if other in left]]
            self.assertTrue(free, "files import from each other: " + " ".join(left))
            for module in free:
                del left[module]


# What the interface lists for each module that stands: functions and values, and classes with their methods.
INTERFACE = {
    "errors": """MintError BadWidth BadNumber BadOp ByZero BadBase BadCode BadAddress BadByte NoRoom BadBody BadName BadEffect
        Unfit NoWord TooMany TooLong BadItem BadRoom BadText NoEnd NoList LastList BadBlock Unknown Thrown Refused NotChecked
        BadRegisters BadRow BadImage StillOpen BadMoment NoBreak""",
    "cells": "WIDTHS ARITHMETIC half wrap is_number bytes_of number_of work show read_number",
    "forms": "BUILDING EFFECTS fits both landings check_body Word Word.effect Word.plain",
    "effects": "Summary Summary.effect Summary.__eq__ Refusal Refusal.__eq__ check standings",
    "opening": "opened opened_places witness",
    "memory": """Memory Memory.__len__ Memory.__getitem__ Memory.__setitem__ Memory.__iter__ Memory.__eq__ Memory.cell Memory.put
        Memory.grow Memory.add_cell Memory.add_byte Memory.text Memory.all_bytes Memory.copy Memory.of""",
    "stores": """Store Store.__len__ Store.__getitem__ Store.__iter__ Store.__eq__ Store.copy Store.define Store.defer Store.act
        Store.changed""",
    "machine": """Machine Machine.stack Machine.feed Machine.step Machine.go Machine.give Machine.at Machine.view Machine.copy
        Machine.moments ended Rooms Rooms.__enter__ Rooms.__exit__ within""",
    "reading": """SIGNS is_line check_text Source Source.word Source.parse Source.rest Source.where Source.text Source.ended
        Source.copy Source.joined words_of""",
    "lists": """Lists Lists.new Lists.also Lists.previous Lists.begin Lists.__contains__ Lists.__iter__ Lists.__eq__ Lists.copy
        find seen""",
    "blocks": """Blocks Blocks.__getitem__ Blocks.__setitem__ Blocks.fill Blocks.text Blocks.__iter__ Blocks.__contains__
        Blocks.__eq__ Blocks.cut""",
    "system": "KERNEL Definition System System.find System.number_of System.__eq__ System.copy System.define System.defer",
    "makers": "full_actions",
    "session": """Outcome Outcome.__bool__ Session Session.stack Session.read Session.__call__ Session.read_by
        Session.reader_machine Session.demand Session.run Session.copy Session.of""",
    "passes": """Named Named.spelled Pass Pass.__add__ Inline Inline.__call__ Fold Fold.__call__ Thread Thread.__call__ Trim
        Trim.__call__ Tail Tail.__call__ settle""",
    "stages": "is_staged staged steps_saved",
    "code": "is_row is_source after_steps takes gives",
    "caching": "made",
    "judging": "judge",
    "engine": """Program Program.__getitem__ Program.__contains__ Program.__iter__ Program.put Engine Engine.at Engine.view Engine.by_code
        Engine.copy""",
    "saving": "save load",
    "pruning": "reached way pruned renumbered",
    "stops": "save_run load_run",
    "stepping": """Tracer Tracer.step Tracer.over Tracer.out Tracer.go Tracer.back Tracer.until Tracer.give Tracer.moment Tracer.breaks
        Tracer.watches Tracer.add_break Tracer.drop_break Tracer.watch Tracer.unwatch Tracer.stops Break Break.__enter__ Break.__exit__
        gone_with""",
    "views": "threaded views",
    "source": "SOURCE source_words",
    "minting": "mint Reminted Reminted.__bool__ remint rounds settles",
    "blaming": "blame",
}


class Interface(unittest.TestCase):
    def test_all_is_defined_in_its_file(self):
        for module, names in INTERFACE.items():
            defined = set()
            for node in ast.parse(source_of(module + ".py")).body:
                if isinstance(node, ast.Assign):
                    defined.add(node.targets[0].id)
                if isinstance(node, (ast.FunctionDef, ast.ClassDef)):
                    defined.add(node.name)
                if isinstance(node, ast.ClassDef):
                    defined |= {f"{node.name}.{part.name}" for part in node.body if isinstance(part, ast.FunctionDef)}
            self.assertEqual([name for name in names.split() if name not in defined], [], module)


class Rules(unittest.TestCase):
    def test_forbidden_forms(self):
        for name, tree in trees():
            for node in with_parents(tree):
                where = (name, getattr(node, "lineno", 0))
                if not isinstance(node, ast.SetComp):
                    self.assertNotIsInstance(node, FORBIDDEN, where)
                elif not isinstance(node.parent, ast.Call) or node.parent.func.id not in ("sorted", "len"):
                    self.fail(where)
                if isinstance(node, ast.arg):
                    self.assertIsNone(node.annotation, where)
                if isinstance(node, ast.FunctionDef):
                    self.assertIsNone(node.returns, where)
                    self.assertIsInstance(node.parent, (ast.Module, ast.ClassDef), where)
                    for decorator in node.decorator_list:
                        self.assertIn(getattr(decorator, "id", "setter"),
                                      ("property", "staticmethod", "classmethod", "setter"), where)
                if isinstance(node, ast.ClassDef):
                    self.assertEqual(node.decorator_list, [], where)
                    self.assertIsInstance(node.parent, ast.Module, where)
                if isinstance(node, ast.GeneratorExp):
                    self.assertIn(getattr(node.parent.func, "id", "join"), ("list", "tuple", "dict", "join"), where)
                if isinstance(node, ast.Compare):
                    for op, right in zip(node.ops, node.comparators):
                        if isinstance(op, (ast.Is, ast.IsNot)):
                            self.assertIn(getattr(right, "value", 0), (None, True, False), where)

    def test_what_a_loop_walks_is_not_changed(self):
        for name, tree in trees():
            for node in ast.walk(tree):
                if isinstance(node, ast.For):
                    self.assertEqual(walked_names(node.iter) & changed_names(node.body), set(), (name, node.lineno))
                if isinstance(node, (ast.ListComp, ast.DictComp, ast.SetComp, ast.GeneratorExp)):
                    walked = {each for part in node.generators for each in walked_names(part.iter)}
                    parts = [part for part in ast.iter_child_nodes(node) if not isinstance(part, ast.comprehension)]
                    self.assertEqual(walked & changed_names(parts), set(), (name, node.lineno))

    def test_what_a_loop_walks_was_not_handed_to_what_it_changes(self):
        """If a loop walks an attribute or a part of it, what it changes was not assigned that attribute or a part of it."""
        for name, tree in trees():
            for function in ast.walk(tree):
                if isinstance(function, ast.FunctionDef):
                    origins = origins_of(function)
                    for walked, block, line in loops_of(function):
                        sources = {origin for each in walked for origin in attributes_of(each, origins)}
                        for changed in mutated_names(block):
                            self.assertEqual(sources & origins.get(changed, set()), set(), (name, line, changed))

    def test_what_is_added_is_another_attribute(self):
        """No +=, |=, extend or update at x.name gets a bare y.name."""
        for name, tree in trees():
            for node in ast.walk(tree):
                where, given = None, []
                if isinstance(node, ast.AugAssign) and isinstance(node.op, (ast.Add, ast.BitOr)):
                    where, given = node.target, [node.value]
                if isinstance(node, ast.Call) and isinstance(node.func, ast.Attribute) and node.func.attr in ("extend", "update"):
                    where, given = node.func.value, node.args
                for each in given:
                    parts = each.elts if isinstance(each, (ast.Tuple, ast.List)) else [each]
                    for part in [part.value if isinstance(part, ast.Starred) else part for part in parts]:
                        if isinstance(where, (ast.Attribute, ast.Name)) and isinstance(part, (ast.Attribute, ast.Name)):
                            self.assertNotEqual(last_name(where), last_name(part), (name, node.lineno))

    def test_strings(self):
        for name, tree in trees():
            told = docstrings(tree)
            for node in ast.walk(tree):
                if isinstance(node, ast.Constant):
                    self.assertNotIsInstance(node.value, (float, complex, bytes), name)
                    if isinstance(node.value, str):
                        self.assertNotIn(chr(37), node.value, name)
                        if node not in told:
                            self.assertFalse(node.value.startswith("__") and node.value.endswith("__"), name)
                            self.assertFalse(node.value.endswith(("._", ".__")), name)

    def test_names(self):
        methods = own_methods()
        for name, tree in trees():
            imported = {part.name for node in tree.body if isinstance(node, ast.ImportFrom) for part in node.names}
            top = {node.name for node in tree.body if isinstance(node, (ast.FunctionDef, ast.ClassDef))}
            top |= {node.targets[0].id for node in tree.body if isinstance(node, ast.Assign)}
            classes = {node.name for node in tree.body if isinstance(node, ast.ClassDef)}
            for node in ast.walk(tree):
                bound = []
                if isinstance(node, ast.Name) and not isinstance(node.ctx, ast.Load):
                    bound.append(node.id)
                if isinstance(node, ast.arg):
                    bound.append(node.arg)
                if isinstance(node, (ast.FunctionDef, ast.ClassDef)):
                    bound.append(node.name)
                if isinstance(node, ast.ExceptHandler) and node.name:
                    bound.append(node.name)
                for word in bound:
                    self.assertNotIn(word, NEVER, name)
                    if not isinstance(node, ast.FunctionDef) or word not in methods:
                        self.assertNotIn(word, NO_NAMES + BUILTINS, name)
                    if word.startswith("__"):
                        self.assertIn(word, DUNDERS, name)
                    if isinstance(node, ast.arg) or (isinstance(node, ast.Name) and node.col_offset > 0):
                        self.assertNotIn(word, imported | classes, name)
                if isinstance(node, ast.Attribute):
                    self.assertNotIn(node.attr, NEVER, name)
                    if node.attr in ("__class__", "__name__"):
                        self.assertEqual(ast.unparse(node.value).partition(".")[0], "self", name)
                    elif node.attr != "__init__" or not isinstance(node.ctx, ast.Load):
                        self.assertFalse(node.attr.startswith("__"), (name, node.attr))
                    if isinstance(node.ctx, ast.Store):
                        self.assertNotIn(node.attr, BUILTIN_ATTRIBUTES, name)

    def test_what_is_called(self):
        methods = own_methods()
        for name, tree in trees():
            for part in ast.walk(tree):
                if not isinstance(part, ast.FunctionDef):
                    continue
                local = {node.arg for node in ast.walk(part) if isinstance(node, ast.arg)}
                local |= {node.id for node in ast.walk(part)
                          if isinstance(node, ast.Name) and isinstance(node.ctx, ast.Store)}
                local |= {node.name for node in ast.walk(part) if isinstance(node, ast.ExceptHandler)}
                top = {node.name for node in tree.body if isinstance(node, (ast.FunctionDef, ast.ClassDef))}
                top |= {node.targets[0].id for node in tree.body if isinstance(node, ast.Assign)}
                top |= {each.name for node in tree.body if isinstance(node, ast.ImportFrom) for each in node.names}
                for node in ast.walk(part):
                    if isinstance(node, ast.Name) and isinstance(node.ctx, ast.Load) and node.id not in local | top:
                        self.assertIn(node.id, BUILTINS + ["property", "staticmethod", "classmethod"],
                                      (name, node.lineno))
                    if isinstance(node, ast.Call) and isinstance(node.func, ast.Attribute):
                        self.assertIn(node.func.attr, METHODS + CALLED + list(methods), (name, node.lineno))

    def test_errors(self):
        classes = own_classes()
        for name, tree in trees():
            for node in ast.walk(tree):
                if isinstance(node, ast.ExceptHandler):
                    self.assertIsInstance(node.type, ast.Name, name)
                    self.assertIn(node.type.id, list(classes) + list(ALLOWED_ERRORS), name)
                if isinstance(node, ast.Raise) and node.exc is not None:
                    self.assertIsInstance(node.exc, ast.Call, (name, node.lineno))
                    self.assertIn(node.exc.func.id, list(classes) + ["TypeError"], name)

    def test_names_of_properties_and_static_methods(self):
        plain, special, stored = set(), set(), set()
        for name, tree in trees():
            for node in ast.walk(tree):
                if isinstance(node, ast.Attribute) and isinstance(node.ctx, ast.Store):
                    stored.add(node.attr)
            for part in [each for each in tree.body if isinstance(each, ast.ClassDef)]:
                for node in part.body:
                    if isinstance(node, ast.FunctionDef):
                        (special if node.decorator_list else plain).add(node.name)
        self.assertEqual(special & (plain | stored), set())
        self.assertEqual(plain & stored, set())

    def test_classes(self):
        for name, tree in trees():
            for part in tree.body:
                if isinstance(part, ast.ClassDef):
                    methods = [node.name for node in part.body if isinstance(node, ast.FunctionDef)]
                    self.assertEqual(len(methods), len(set(methods)), (name, part.name))
                    stored = {node.attr for node in ast.walk(part)
                              if isinstance(node, ast.Attribute) and isinstance(node.ctx, ast.Store)}
                    self.assertEqual(stored & set(methods), set(), (name, part.name))
                    if "__getitem__" in methods:
                        self.assertIn("__iter__", methods)


if __name__ == "__main__":
    unittest.main()
