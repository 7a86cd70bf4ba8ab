"""The files of the package: where names are defined, and the plainest rules of the language it is written in."""

import ast
import os
import unittest

import cordsatrest

FOLDER = os.path.dirname(cordsatrest.__file__)
DEFINED = {
    'errors.py': (
        'RestError BadNet NoName NoCord BadPlacement BadShare BadMoves BadStep BadPulls BadWeighed BadHeld '
        'TooWide NoRing NotHung NotBalanced BadRows BadMore BadLack BadDirection NoLine BadWay Adrift TooFine '
        'Met NotHeld Beyond TooMany Weighed NotStraight Tied BadTable BadKept Together Unlike NotFlat BadSpot '
        'BadStress BadRoof BadSecond BadSites BadPlace BadWeight NoPeg Last NothingToUndo NothingToRedo '
        'NoTrial BadJournal BadWords'
    ),
    'nets.py': 'Net place_of weight_of square_of cords_at',
    'placements.py': 'picture is_placement lets score between mixture moved',
    'pulls.py': 'left_over pulled shows_pulled least_rows',
    'rounds.py': 'rounds shows_rounds held round_of alike loosening shows_loosening further',
    'hanging.py': 'hangs shows_hangs does_hang lower',
    'lots.py': 'lot_rounds shows_lot_rounds lots lot_round does_stay apart shows_apart other_hanging',
    'strays.py': 'bend resistance stray score_above',
    'weighing.py': 'cord_rows weight_rows told_back',
    'straight.py': 'rising shows_rising way_pulls heavy shows_heavy',
    'settled.py': 'settled_places settled strain',
    'broken.py': 'without needed lasting spare bare',
    'changes.py': 'cut_off left_out mapped shadow joined',
    'flat.py': 'is_flat rim lands sides lands_at is_stress stress_basis',
    'roofs.py': 'is_roof roof_of stress_of height bulges creases shows_creases',
    'seconds.py': 'is_second second_of stress_by roof_by',
    'near.py': 'are_sites sites_of stress_from nearest',
    'bench.py': 'Bench',
    'journals.py': 'journal read_journal',
    'desk.py': 'Desk',
}
METHODS = {
    'nets.py': ('Net', '__init__ __len__ __eq__'),
    'bench.py': ('Bench', '__init__ __eq__ tie cut move weigh pin free undo redo trial keep tried copy'),
    'desk.py': ('Desk', '__init__ say'),
}
LIBRARY = {'math': {'gcd', 'lcm', 'isqrt', 'comb', 'perm', 'factorial'}}


def files():
    """(name, text) for each file of the package."""
    names = [name for name in sorted(os.listdir(FOLDER)) if name != '__pycache__']
    found = []
    for name in names:
        with open(os.path.join(FOLDER, name), encoding='utf-8') as file:
            found.append((name, file.read()))
    return found


class TestFiles(unittest.TestCase):
    def test_names_are_defined_where_they_are_listed(self):
        trees = {name: ast.parse(text) for name, text in files()}
        for name, words in DEFINED.items():
            defined = [part.name for part in trees[name].body if isinstance(part, (ast.FunctionDef, ast.ClassDef))]
            self.assertLessEqual(set(words.split()), set(defined))

    def test_methods_stand_in_the_class(self):
        for name, (kind, words) in METHODS.items():
            tree = ast.parse(dict(files())[name])
            body = [part for part in tree.body if isinstance(part, ast.ClassDef) and part.name == kind][0].body
            self.assertLessEqual(set(words.split()), {part.name for part in body if isinstance(part, ast.FunctionDef)})

    def test_size_and_characters(self):
        for name, text in files():
            with self.subTest(name):
                self.assertRegex(name, r'^[a-z_]+\.py$')
                self.assertRegex(text, r'^[ -~\n]*$')
                self.assertLessEqual(len(text.split('\n')), 400)
                self.assertLessEqual(max(map(len, text.split('\n'))), 120)

    def test_small_functions(self):
        for name, text in files():
            for part in ast.walk(ast.parse(text)):
                if isinstance(part, ast.FunctionDef):
                    with self.subTest(name=name, function=part.name):
                        self.assertLessEqual(part.end_lineno - part.lineno, 39)

    def test_imports(self):
        own = {'cordsatrest.' + name[:-3]: text for name, text in files()}
        for name, text in files():
            for part in ast.walk(ast.parse(text)):
                self.assertNotIsInstance(part, ast.Import)
                if isinstance(part, ast.ImportFrom):
                    words = {alias.name for alias in part.names}
                    if part.module in LIBRARY:
                        self.assertLessEqual(words, LIBRARY[part.module])
                    else:
                        self.assertLessEqual(words, bound_in(own[part.module]))

    def test_no_float_and_no_slash(self):
        for name, text in files():
            for part in ast.walk(ast.parse(text)):
                with self.subTest(name):
                    self.assertNotIsInstance(part, ast.Div)
                    self.assertFalse(isinstance(part, ast.Constant) and isinstance(part.value, float))

    def test_sets_stand_where_they_may(self):
        for name, text in files():
            with self.subTest(name):
                self.assertEqual(misplaced_sets(text), [])

    def test_names_of_sets_are_given_once(self):
        for name, text in files():
            for part in ast.walk(ast.parse(text)):
                if isinstance(part, ast.FunctionDef):
                    with self.subTest(name=name, function=part.name):
                        self.assertEqual(sets_given_again(part), [])

    def test_misplaced_sets_are_found(self):
        for line in (
            'seen, found = set(), []', 'found, seen = [], {1, 2}', 'a, (b, c) = 1, ({x for x in xs}, 2)', 'a = b = set()',
            '[a, b] = [set(xs), 0]', 'a, *b = set(xs), 1, 2', 'a, b = (set(), 1) if c else (2, 3)', 'for a, b in [(set(), 1)]: pass',
            'rows = [set()]', 'seen: set = set()', 'box.seen = set()', 'seen = known or set()', 'seen = set(xs) | set(ys)', 'show(set())',
            'seen |= {1}', 'for x in {1, 2}: pass', 'a = x in [{1}]', 'a = len([set()])', 'a = sorted(xs, b={1})',
        ):
            self.assertEqual(misplaced_sets('def call():\n    ' + line), [2])
        for line in (
            'seen = set()', 'a, b = len(set(xs)), sorted({1, 2})', 'a = x in {1, 2}, x not in {x for x in xs}', 'a = b = {}, []',
            'a = set(xs) == set(ys)', 'a = x in set(xs) - set(ys) | {1}', 'a = len(set(xs) & set(ys))', 'a = sorted({1, 2}, reverse=True)',
        ):
            self.assertEqual(misplaced_sets('def call():\n    ' + line), [])

    def test_sets_given_again_are_found(self):
        for line in ('seen = []', 'seen += 1', 'seen: list = []', 'a, (*seen, b) = xs', 'for seen in xs: pass', 'del seen', 'a = (seen := 2)'):
            for text in (line + '\n    seen = set()', 'seen = {x for x in xs}\n    ' + line):
                self.assertEqual(sets_given_again(ast.parse('def call(xs):\n    ' + text).body[0]), ['seen'])
        self.assertEqual(sets_given_again(ast.parse('def call(seen):\n    seen = set()').body[0]), ['seen'])
        self.assertEqual(sets_given_again(ast.parse('def call(xs):\n    seen = set()\n    seen.add(1)').body[0]), [])


def is_set(part):
    """Whether a part of a file makes a set; one made of several sets by signs counts, too."""
    if isinstance(part, ast.BinOp):
        return is_set(part.left) or is_set(part.right)
    called = isinstance(part, ast.Call) and isinstance(part.func, ast.Name) and part.func.id in ('set', 'frozenset')
    return called or isinstance(part, (ast.Set, ast.SetComp))


def may_have(part, child):
    """Whether a set may stand as this child of this part (L24): stored, compared or measured, sorted, or joined."""
    if isinstance(part, ast.Assign):
        return len(part.targets) == 1 and isinstance(part.targets[0], ast.Name) and not isinstance(child, ast.BinOp)
    if isinstance(part, ast.Compare):
        beside = child in part.comparators and isinstance(part.ops[0], (ast.In, ast.NotIn))
        return len(part.ops) == 1 and (beside or isinstance(part.ops[0], (ast.Eq, ast.NotEq)))
    if isinstance(part, ast.Call):
        return isinstance(part.func, ast.Name) and part.func.id in ('len', 'sorted') and child in part.args
    return isinstance(part, ast.BinOp)


def misplaced_sets(text):
    """The numbers of the lines with a set where none may stand: so also those that give several names at once."""
    found = []
    for part in ast.walk(ast.parse(text)):
        for child in ast.iter_child_nodes(part):
            if is_set(child) and not may_have(part, child):
                found.append(child.lineno)
    return sorted(found)


def sets_given_again(function):
    """The names of a function that are given a set, and anything else besides, or that twice."""
    stored, given = set(), []
    for part in ast.walk(function):
        if isinstance(part, ast.Assign) and is_set(part.value):
            stored.update(target.id for target in part.targets if isinstance(target, ast.Name))
        if isinstance(part, ast.Name) and not isinstance(part.ctx, ast.Load):
            given.append(part.id)
        elif isinstance(part, ast.arg):
            given.append(part.arg)
    return sorted(name for name in stored if given.count(name) > 1)


def bound_in(text):
    """The names that a file defines itself."""
    found = set()
    for part in ast.parse(text).body:
        if isinstance(part, (ast.FunctionDef, ast.ClassDef)):
            found.add(part.name)
        elif isinstance(part, ast.Assign):
            found.update(target.id for target in part.targets)
    return found


if __name__ == '__main__':
    unittest.main()
