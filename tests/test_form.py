"""The form of the code: the interface, and those rules of the language that a plain look at the files can see."""

import ast
import builtins
import importlib
import inspect
import os
import unittest

FOLDER = os.path.join(os.path.dirname(os.path.dirname(os.path.abspath(__file__))), 'roundedsteps')

INTERFACE = {
    'grids': {'Grid': 'base figures reach places'},
    'rounding': {'rounded': 'grid top bottom way more', 'rest': 'grid top bottom way more',
                 'is_tie': 'grid top bottom more', 'around': 'grid top bottom more', 'split_sum': 'grid one other'},
    'parts': {'row_worth': 'grid row', 'plain_sum': 'grid row', 'renewed': 'grid worth', 'renewed_row': 'grid row',
              'shows_shortest': 'grid worth value', 'product_row': 'grid one other', 'cross_signs': 'grid four'},
    'programs': {'Program': 'text', 'joined': 'one other'},
    'runs': {'run': 'program inputs', 'worths': 'program inputs', 'exact_run': 'program inputs',
             'exact_worths': 'program inputs', 'mixed_run': 'program inputs lot', 'mixed_worths': 'program inputs lot',
             'off_by': 'program inputs'},
    'boxes': {'whole_box': 'program', 'points': 'program box', 'inputs_at': 'program box number',
              'cut_at': 'program box name at', 'halved': 'program box'},
    'ranges': {'ranges': 'program box', 'exact_ranges': 'program box'},
    'lines': {'lines': 'program box', 'line_ends': 'line box', 'exact_lines': 'program box',
              'plain_steps': 'program box', 'alike': 'program box'},
    'claims': {'is_so': 'program claim inputs', 'broken_by': 'program claims inputs', 'so_often': 'program claim'},
    'deciding': {'decided': 'program claim box', 'first_open': 'program claims box'},
    'proving': {'leaves': 'program tree', 'proved': 'program claim', 'shows_proved': 'program claim value',
                'proved_on': 'program claim box', 'shows_proved_on': 'program claim box value',
                'parted': 'program claim', 'shows_parted': 'program claim value', 'so_many': 'program tree'},
    'fewest': {'reaches': 'program claim low', 'fewest': 'program claim', 'shows_fewest': 'program claim value',
               'pins': 'program claim', 'shows_pins': 'program claim value'},
    'ends': {'greatest': 'program name', 'shows_greatest': 'program name value', 'lowest': 'program name',
             'shows_lowest': 'program name value', 'farthest': 'program name', 'shows_farthest': 'program name value',
             'turned': 'program one other', 'shows_turned': 'program one other value'},
    'alike': {'same_for_all': 'one other', 'shows_same_for_all': 'one other value', 'unlike_many': 'one other',
              'shows_unlike_many': 'one other value', 'first_unlike': 'one other'},
    'rules': {'rule_names': '', 'led': 'program rule name', 'pruned': 'program', 'led_by': 'program row',
              'leads': 'program', 'kept': 'program rule name', 'shows_kept': 'program rule name value'},
    'leastprogram': {'all_inputs': 'program', 'parting': 'one other', 'made': 'program making',
                     'least_program': 'program making', 'never_better': 'one other'},
    'seen': {'is_left': 'program looks inputs', 'left_tree': 'program looks', 'shows_left_tree': 'program looks value',
             'left_boxes': 'program tree', 'how_many': 'program looks', 'surely': 'program looks claim',
             'shows_surely': 'program looks claim value', 'spread': 'program looks name',
             'shows_spread': 'program looks name value'},
    'looks': {'counted': 'program looks name', 'best_ask': 'program looks names',
              'shows_best_ask': 'program looks names value', 'knows': 'program looks names goal',
              'shows_knows': 'program looks names goal value', 'cheapest_names': 'program looks prices goal',
              'shows_cheapest_names': 'program looks prices goal value'},
    'apart': {'kinds': 'programs', 'fewest_inputs': 'programs', 'shows_fewest_inputs': 'programs value',
              'fitting': 'programs seen', 'plan': 'programs', 'shows_plan': 'programs value'},
    'figures': {'cheapest': 'program claim prices', 'shows_cheapest': 'program claim prices value',
                'choices_told': 'program claim prices', 'shows_choices_told': 'program claim prices value',
                'upward': 'program claim prices', 'shows_upward': 'program claim prices value'},
    'blame': {'holds_mixed': 'program claim lot inputs', 'blamed': 'program claim inputs', 'cure': 'program claim box',
              'shows_cure': 'program claim box value', 'shares': 'program inputs'},
    'filters': {'least_bound': 'program choice', 'shows_least_bound': 'program choice value',
                'sign_told': 'program stages inputs', 'sign_counts': 'program stages box', 'safe': 'program stages',
                'shows_safe': 'program stages value', 'cheapest_stages': 'program prices last box',
                'shows_cheapest_stages': 'program prices last box value'},
    'folds': {'folded': 'program start parts', 'least_closed': 'program starts', 'shows_least_closed': 'program starts value',
              'least_kept': 'program starts', 'shows_least_kept': 'program starts value'},
    'far': {'stuck': 'program part', 'ring': 'program start part', 'behind': 'program start part laps',
            'drift': 'grid start part way laps', 'stall': 'grid start part way'},
    'orders': {'tree_sum': 'grid numbers tree way', 'all_sums': 'grid numbers way', 'one_answer': 'grid numbers way',
               'shows_one_answer': 'grid numbers way value', 'best_tree': 'grid numbers way',
               'shows_best_tree': 'grid numbers way value', 'worst_tree': 'grid numbers way',
               'shows_worst_tree': 'grid numbers way value'},
    'bins': {'exact_level': 'grid many greatest', 'shows_exact_level': 'grid many greatest value',
             'binned': 'grid numbers greatest'},
    'bench': {'Bench': 'program'},
    'journals': {'journal': 'bench', 'read_journal': 'text'},
    'desk': {'Desk': 'text'},
}
METHODS = {
    ('grids', 'Grid'): {'spacing': 'number', 'rank': 'number', 'number': 'rank', 'after': 'number', 'before': 'number',
                        'more': 'figures', 'many': 'low high'},
    ('programs', 'Program'): {'with_more': 'choices', 'narrowed': 'box'},
    ('bench', 'Bench'): {'narrow': 'name low high', 'see': 'name low high', 'refine': 'name more', 'put': 'line', 'take': 'name',
                         'tell': 'names', 'claim': 'claim', 'unclaim': 'number', 'how_many': '', 'holds': '', 'spread': 'name',
                         'undo': '', 'redo': '', 'trial': '', 'keep': '', 'tried': 'look keep', 'copy': ''},
    ('desk', 'Desk'): {'say': 'line'},
}
LIBRARY = {'math': ('gcd',)}
BUILTINS = """len range enumerate zip min max sum abs sorted reversed int str bool list tuple dict set isinstance divmod
repr any all ValueError""".split()
VALUE_METHODS = """append count endswith extend find get index insert isalnum isalpha isdigit islower isspace isupper items
join keys lower lstrip partition pop remove replace reverse rstrip setdefault split startswith strip update upper values
isascii""".split()
UNDERSCORED = """__init__ __eq__ __len__ __contains__ __enter__ __exit__""".split()
WORDS = """type typing enum Enum Flag Generic Protocol ABC namedtuple abstractmethod open input register law mro elements
eval exec exit compile dir vars globals locals hash id next iter map filter format round""".split()
# The doctests of the examples leave a name _ behind.
TAKEN = [name for name in dir(builtins) if name != '_']
FORBIDDEN = (ast.GeneratorExp, ast.Global, ast.Nonlocal, ast.AsyncFunctionDef, ast.Await, ast.Yield,
             ast.YieldFrom, ast.NamedExpr, ast.SetComp, ast.Delete, ast.Match)


def file_names():
    """The files of the package."""
    return sorted(name for name in os.listdir(FOLDER) if name != '__pycache__')


def trees():
    """The name of each file, without its ending, with its tree and its text."""
    for name in file_names():
        with open(os.path.join(FOLDER, name), encoding='ascii') as file:
            text = file.read()
        yield name[:-3], ast.parse(text), text


def functions(tree):
    """All functions and methods."""
    return [node for node in ast.walk(tree) if isinstance(node, ast.FunctionDef)]


def imports(tree):
    """The imports, (module, name)."""
    return [(node.module, row.name) for node in tree.body if isinstance(node, ast.ImportFrom) for row in node.names]


def bound_names(function):
    """The parameters and the variables of a function."""
    names = [row.arg for row in function.args.args + function.args.kwonlyargs]
    return names + [node.id for node in ast.walk(function) if isinstance(node, ast.Name) and isinstance(node.ctx, ast.Store)]


def is_plain(node, functions_above):
    """Whether a value at module level is plain: literal, or a dict of literals and of functions above it."""
    parts = node.values if isinstance(node, ast.Dict) else [node]
    parts = [part for part in parts if not isinstance(part, ast.Name) or part.id not in functions_above]
    return all(isinstance(part, (ast.Constant, ast.Tuple, ast.List, ast.Dict)) and is_literal(part) for part in parts)


def is_literal(node):
    """Whether a value is written out."""
    try:
        ast.literal_eval(node)
    except ValueError:
        return False
    return True


def is_end_row(row):
    """Whether a row can stand in __exit__, which is held to fewer sorts of them than the language has there."""
    if isinstance(row, ast.If):
        return is_end_test(row.test) and all([is_end_row(part) for part in row.body + row.orelse])
    if isinstance(row, ast.Return):
        return row.value is None or isinstance(row.value, ast.Constant) and (row.value.value is None or row.value.value is False)
    if isinstance(row, ast.Assign) and len(row.targets) == 1:
        target, given = row.targets[0], row.value
        if isinstance(target, ast.Name):
            return is_part(given) and isinstance(given.value, ast.Name) and given.value.id == 'self'
        return is_part(target) and (is_part(given) or isinstance(given, ast.Constant))
    return isinstance(row, ast.Pass)


def is_end_test(test):
    """Whether a test asks only what is None: classes here have __eq__ and __len__, so nothing is asked alone or compared."""
    if isinstance(test, ast.BoolOp):
        return all([is_end_test(part) for part in test.values])
    if isinstance(test, ast.UnaryOp):
        return isinstance(test.op, ast.Not) and is_end_test(test.operand)
    if not isinstance(test, ast.Compare) or len(test.ops) > 1 or not isinstance(test.ops[0], (ast.Is, ast.IsNot)):
        return False
    told = test.comparators[0]
    known = is_part(test.left) or isinstance(test.left, ast.Name) and test.left.id not in ('value', 'trace')
    return known and isinstance(told, ast.Constant) and told.value is None


def is_part(node):
    """Whether it is an attribute off a name, perhaps through others, of nothing that __exit__ is handed."""
    while isinstance(node, ast.Attribute):
        node = node.value
        if isinstance(node, ast.Name):
            return node.id not in ('kind', 'value', 'trace')
    return False


class Interface(unittest.TestCase):
    """What is listed is there, under its name, defined in its file."""

    def test_functions_and_classes(self):
        for file, rows in INTERFACE.items():
            module = importlib.import_module(f'roundedsteps.{file}')
            for name, told in rows.items():
                part = getattr(module, name)
                self.assertEqual(part.__module__, module.__name__)
                self.assertEqual(list(inspect.signature(part).parameters), told.split())

    def test_methods_stand_in_their_classes(self):
        for (file, owner), rows in METHODS.items():
            part = getattr(importlib.import_module(f'roundedsteps.{file}'), owner)
            for name, told in rows.items():
                self.assertIn(name, vars(part))
                self.assertEqual(list(inspect.signature(vars(part)[name]).parameters), ['self'] + told.split())


class Files(unittest.TestCase):
    """The files by themselves."""

    def test_only_plain_files(self):
        for name in file_names():
            self.assertRegex(name, r'^[a-z_]+\.py$')

    def test_sizes_and_signs(self):
        for name, tree, text in trees():
            lines = text.split('\n')
            self.assertLess(len(lines), 400, name)
            self.assertLessEqual(max(len(line) for line in lines), 120, name)
            self.assertTrue(all(sign == '\n' or ' ' <= sign <= '~' for sign in text), name)
            for function in functions(tree):
                self.assertLessEqual(function.end_lineno - function.lineno + 1, 40, (name, function.name))

    def test_docstrings(self):
        for name, tree, _ in trees():
            for node in [tree] + [node for node in ast.walk(tree) if isinstance(node, (ast.ClassDef, ast.FunctionDef))]:
                self.assertTrue(ast.get_docstring(node), (name, getattr(node, 'name', '')))

    def test_module_level(self):
        plain = (ast.Expr, ast.ImportFrom, ast.FunctionDef, ast.ClassDef, ast.Assign)
        for name, tree, _ in trees():
            above = []
            for node in tree.body:
                self.assertIsInstance(node, plain, name)
                if isinstance(node, ast.Assign):
                    self.assertTrue(is_plain(node.value, above), (name, node.lineno))
                if isinstance(node, ast.FunctionDef):
                    above.append(node.name)

    def test_imports(self):
        defined = {name: {node.name for node in tree.body if isinstance(node, (ast.FunctionDef, ast.ClassDef))}
                   | {target.id for node in tree.body if isinstance(node, ast.Assign) for target in node.targets}
                   for name, tree, _ in trees()}
        known = {}
        for name, tree, text in trees():
            rows = imports(tree)
            for module, part in rows:
                if module in LIBRARY:
                    self.assertIn(part, LIBRARY[module])
                    continue
                self.assertTrue(module.startswith('roundedsteps.'), (name, module))
                self.assertIn(part, defined[module[13:]], (name, part))
            names = [part for _, part in rows]
            self.assertEqual(len(set(names) | defined[name]), len(names) + len(defined[name]), name)
            for part in names:
                self.assertGreater(text.count(part), 1, (name, part))
            known[name] = {module[13:] for module, _ in rows if module not in LIBRARY}
        while known:
            free = [name for name, behind in known.items() if not behind]
            self.assertTrue(free, f'these import one another: {known}')
            known = {name: behind - set(free) for name, behind in known.items() if name not in free}

    def test_nothing_is_left_over(self):
        texts = ''.join(text for _, _, text in trees())
        listed = {part for rows in list(INTERFACE.values()) + list(METHODS.values()) for part in rows}
        for name, tree, _ in trees():
            for function in functions(tree):
                if function.name not in listed and function.name not in UNDERSCORED:
                    self.assertGreater(texts.count(function.name), 1, (name, function.name))


class Language(unittest.TestCase):
    """What the functions are made of."""

    def test_no_other_statements_and_expressions(self):
        for name, tree, _ in trees():
            for node in ast.walk(tree):
                self.assertNotIsInstance(node, FORBIDDEN, (name, getattr(node, 'lineno', 0)))
                if isinstance(node, ast.BinOp):
                    self.assertNotIsInstance(node.op, (ast.Div, ast.Pow), (name, node.lineno))
                if isinstance(node, ast.AugAssign):
                    self.assertNotIsInstance(node.op, (ast.Mult, ast.Div, ast.Pow), (name, node.lineno))
                if isinstance(node, ast.Constant):
                    self.assertNotIsInstance(node.value, (float, complex, bytes), (name, node.lineno))
                if isinstance(node, ast.Constant) and isinstance(node.value, str):
                    self.assertNotIn('%', node.value, (name, node.lineno))
                if isinstance(node, ast.Compare) and isinstance(node.ops[0], (ast.Is, ast.IsNot)):
                    self.assertIsInstance(node.comparators[0], ast.Constant, (name, node.lineno))
                if isinstance(node, (ast.FunctionDef, ast.ClassDef)):
                    self.assertEqual(node.decorator_list, [], (name, node.lineno))
                if isinstance(node, ast.FunctionDef):
                    self.assertEqual(node.args.defaults, [], (name, node.lineno))
                if isinstance(node, ast.Raise):
                    self.assertIsInstance(node.exc, ast.Call, (name, node.lineno))

    def test_tries_and_blocks(self):
        errors = {name for name, part in vars(importlib.import_module('roundedsteps.errors')).items() if isinstance(part, type)}
        for name, tree, _ in trees():
            for node in ast.walk(tree):
                if isinstance(node, ast.Try):
                    self.assertEqual((node.finalbody, node.orelse), ([], []), (name, node.lineno))
                    for handler in node.handlers:
                        self.assertIn(handler.type.id, errors - {'ValueError'}, (name, node.lineno))
                if isinstance(node, ast.With):
                    self.assertTrue(all(isinstance(item.context_expr, ast.Name) for item in node.items), (name, node.lineno))
                if isinstance(node, ast.FunctionDef):
                    self.assertTrue(all(isinstance(part, ast.Constant) for part in node.args.kw_defaults), (name, node.lineno))
                    self.assertEqual((node.args.vararg, node.args.kwarg, node.args.posonlyargs), (None, None, []), (name, node.lineno))

    def test_what_ends_a_block_is_simple(self):
        ends = [node for _, tree, _ in trees() for node in functions(tree) if node.name == '__exit__']
        self.assertEqual(len(ends), 1)
        self.assertEqual([row.arg for row in ends[0].args.args], ['self', 'kind', 'value', 'trace'])
        self.assertTrue(ast.get_docstring(ends[0]))
        for row in ends[0].body[1:]:
            self.assertTrue(is_end_row(row), ast.unparse(row))
        given = [node.targets[0].id for node in ast.walk(ends[0])
                 if isinstance(node, ast.Assign) and isinstance(node.targets[0], ast.Name)]
        self.assertEqual(len(given), len(set(given)))

    def test_which_rows_can_end_a_block(self):
        right = ['pass', 'return', 'return None', 'return False', 'held = self.held', 'held.past = self.past', 'self.many = 0',
                 'if kind is None:\n    pass', 'if kind is not None or self.kept is None:\n    held.past = self.past',
                 'if not (self.kept is not None and kind is None):\n    pass\nelse:\n    self.kept = None']
        wrong = ['if kind is not None or not self.is_kept:\n    pass', 'if self.is_kept:\n    pass', 'if kind:\n    pass',
                 'if not kind:\n    pass', 'if self.kept == None:\n    pass', 'if self.kept is True:\n    pass', 'if self.many > 3:\n    pass',
                 'if None is kind:\n    pass', 'if value is None:\n    pass', 'if trace is not None:\n    pass', 'if len(self.rows):\n    pass',
                 'if self.past is self.future:\n    pass', 'if kind is None is None:\n    pass', 'if self.rows[0] is None:\n    pass',
                 'if kind is None:\n    self.end()', 'if kind is None:\n    pass\nelse:\n    raise kind', 'return True', 'return 0', 'return kind', 'return self.kept',
                 'self.past = value', 'self.past = kind', 'self.many = -1', 'self.past = self.rows[0]', 'self.past = held.now()', 'self.rows[0] = 1',
                 'self.past, self.future = self.now', 'self.past = self.future = ()', 'held = other.held', 'held = self.one.other', 'held = 1',
                 'self.end()', 'raise Kept', 'for row in self.rows:\n    pass', 'while kind is None:\n    pass', 'del self.past']
        for rows, wanted in ((right, True), (wrong, False)):
            for row in rows:
                self.assertIs(is_end_row(ast.parse(row).body[0]), wanted, row)

    def test_names(self):
        for name, tree, _ in trees():
            taken = {part for _, part in imports(tree)}
            taken |= {node.name for node in tree.body if isinstance(node, (ast.ClassDef, ast.FunctionDef))}
            for function in functions(tree):
                for bound in bound_names(function):
                    self.assertNotIn(bound, taken, (name, function.name))
                    self.assertNotIn(bound, TAKEN, (name, function.name))
                    self.assertNotIn(bound, WORDS, (name, function.name))
                self.assertNotIn(function.name, TAKEN, name)
                if function.name.startswith('__'):
                    self.assertIn(function.name, UNDERSCORED, name)

    def test_builtins_and_methods(self):
        own = {function.name for _, tree, _ in trees() for function in functions(tree)}
        for name, tree, _ in trees():
            for node in ast.walk(tree):
                if isinstance(node, ast.Name) and node.id in TAKEN:
                    self.assertIn(node.id, BUILTINS, (name, node.lineno))
                if isinstance(node, ast.Call) and isinstance(node.func, ast.Attribute):
                    self.assertIn(node.func.attr, set(VALUE_METHODS) | own, (name, node.lineno))
                if isinstance(node, ast.Call):
                    self.assertEqual(node.keywords, [], (name, node.lineno))

    def test_methods_and_attributes_have_unlike_names(self):
        methods, attributes = set(), set()
        for _, tree, _ in trees():
            for owner in [node for node in tree.body if isinstance(node, ast.ClassDef)]:
                methods |= {node.name for node in owner.body if isinstance(node, ast.FunctionDef)}
            attributes |= {node.attr for node in ast.walk(tree)
                           if isinstance(node, ast.Attribute) and isinstance(node.ctx, ast.Store)}
        self.assertEqual(methods & attributes, set())
        taken = {part for kind in (str, int, list, dict, set, bytes, tuple) for part in dir(kind)}
        self.assertEqual((methods | attributes) & taken, {'__init__', '__eq__', '__len__', '__contains__', 'copy'})

    def test_sets_stand_where_they_are_used_up(self):
        for name, tree, _ in trees():
            calls = [node for node in ast.walk(tree) if isinstance(node, ast.Call)]
            used = [id(call.args[0]) for call in calls if isinstance(call.func, ast.Name)
                    and call.func.id in ('len', 'sorted')]
            for call in calls:
                if isinstance(call.func, ast.Name) and call.func.id == 'set':
                    self.assertIn(id(call), used, (name, call.lineno))
            self.assertFalse([node for node in ast.walk(tree) if isinstance(node, ast.Set)], name)


if __name__ == '__main__':
    unittest.main()
