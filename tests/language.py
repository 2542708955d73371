"""Holds the package's files against those rules of the language that a small script can see.

faults(files, package) takes a dict from the names of files to their texts and tells a list of
(file, line, rule, words). It does not see all that the rules say, and here and there it lets through less than they
do, where what they allow is rare and hard to tell from what they bar.
"""

import ast
import io
import re
import tokenize
import warnings

LONGEST_LINE = 120
LONGEST_FILE = 399
LONGEST_FUNCTION = 40
LARGEST_EXPONENT = 64
MOST_DIGITS = 900

ERRORS = """Exception ValueError TypeError KeyError IndexError LookupError ZeroDivisionError ArithmeticError
OverflowError RuntimeError NotImplementedError AttributeError StopIteration""".split()
CAUGHT = "KeyError ZeroDivisionError StopIteration ValueError LookupError IndexError".split()
BUILTINS = ERRORS + """len range enumerate zip min max sum abs sorted reversed int str bool list tuple dict set
frozenset isinstance ord repr any all divmod iter next map super property staticmethod classmethod
NotImplemented""".split()
KEYWORDS = {"sorted": ["key", "reverse"], "min": ["key", "default"], "max": ["key", "default"], "sum": ["start"],
            "enumerate": ["start"], "zip": ["strict"]}
AT_ONCE = "list tuple dict sorted sum any all enumerate zip min max set len".split()
METHODS = """append clear copy count endswith extend find get index insert isalnum isalpha isdigit islower isspace
isupper items join keys ljust lower lstrip partition pop remove replace reverse rfind rjust rpartition rsplit rstrip
setdefault split splitlines startswith strip update upper values zfill bit_length title capitalize swapcase casefold
center expandtabs removeprefix removesuffix rindex isascii isdecimal isnumeric istitle isidentifier isprintable
translate encode decode hex sort add discard""".split()
CHANGING = "append clear extend insert pop remove reverse setdefault update sort add discard".split()
LIBRARY = {
    "heapq": "heappush heappop heapify heapreplace heappushpop".split(),
    "math": "gcd lcm isqrt comb perm factorial".split(),
    "itertools": "product combinations permutations".split(),
}
OPERATORS = """add sub mul floordiv mod pow and or xor lshift rshift radd rsub rmul rfloordiv rmod rand ror rxor
rlshift rrshift iadd isub imul ifloordiv imod ipow iand ior ixor ilshift irshift""".split()
DUNDERS = ["__" + name + "__" for name in """init eq repr str len enter exit call iter lt le gt ge ne neg pos invert
abs bool contains getitem setitem""".split() + OPERATORS]
BARRED_EVERYWHERE = """register mro elements open input law version_info with_traceback add_note format
format_map""".split()
BARRED_NAMES = BARRED_EVERYWHERE + """attrgetter breakpoint builtins compile copyright credits delattr dir eval exec
exit gc getattr globals hasattr help id importlib license locals methodcaller os quit setattr super type vars sys
_cold _tuplegetter _outside _record _written_out _member_names""".split()
BARRED_STARTS = ("__", "_wall", "_pe_", "_dcw_", "_enum_", "_cm_", "_twin_re_", "_lay_", "_law_", "_stub_", "_sre")
BARRED_WORDS = """type typing typing_extensions enum Enum IntEnum StrEnum Flag IntFlag Generic Protocol ABC ABCMeta
namedtuple NamedTuple TypedDict TYPE_CHECKING abstractmethod""".split()
BARRED_FILES = """test tests testing site conftest sitecustomize usercustomize heapq math itertools json calendar
queue""".split() + BARRED_WORDS
FRAME_NAME = re.compile(r"(f|tb|co|gi|cr|ag)_(back|builtins|code|globals|lasti|lineno|locals|trace|next|frame|names)")
BUILTIN_NAMES = dir(__builtins__) if not isinstance(__builtins__, dict) else list(__builtins__)
OF_VALUES = {name for kind in (str, int, list, tuple, dict, set, bytes) for name in dir(kind)}

NODES = """Module Expr Assign AugAssign AnnAssign If While For Return Break Continue Pass Raise Assert Delete
Nonlocal Match match_case MatchValue MatchSingleton MatchSequence MatchStar MatchAs MatchOr With withitem Try
ExceptHandler FunctionDef ClassDef ImportFrom alias arguments arg keyword Name Attribute Subscript Slice Starred
Import Constant List Tuple Dict Set ListComp DictComp SetComp GeneratorExp comprehension BinOp UnaryOp BoolOp Compare
IfExp
Call Lambda JoinedStr FormattedValue NamedExpr Yield YieldFrom Load Store Del And Or Not USub UAdd Invert Add Sub Mult
FloorDiv Mod Pow LShift RShift BitAnd BitOr BitXor Eq NotEq Lt LtE Gt GtE Is IsNot In NotIn""".split()


def faults(files, package):
    """All faults of a package's files, a dict from file names to texts."""
    found = []
    trees = {}
    for name, text in files.items():
        _file_name(name, found)
        _characters(name, text, found)
        trees[name] = _parsed(name, text, found)
    own = _own_methods(trees)
    for name, tree in trees.items():
        if tree is not None:
            _File(name, tree, trees, package, own, found).check()
            _words(name, files[name], tree, found)
    _circles(trees, package, found)
    return sorted(found)


def _file_name(name, found):
    stem = name[:-3]
    plain = re.fullmatch(r"[a-z][a-z0-9_]*\.py", name, re.ASCII) or name in ("__init__.py", "__main__.py")
    if not plain:
        found.append((name, 0, "L1", "not a plain name of a .py file"))
    if stem in BARRED_FILES or stem in BUILTIN_NAMES or stem.startswith(("test_", "law_")):
        found.append((name, 0, "L14", "a barred name of a file"))


def _characters(name, text, found):
    lines = text.split("\n")
    for at, row in enumerate(lines, 1):
        if len(row) > LONGEST_LINE:
            found.append((name, at, "L10", "a long line"))
        if "\t" in row:
            found.append((name, at, "L10", "a tab"))
        if not all(" " <= sign <= "~" for sign in row):
            found.append((name, at, "L14", "a character out of bounds"))
        if re.search(r"\b_wall\b|_WallAttr", row):
            found.append((name, at, "L12", "a barred word"))
    if len(text.splitlines()) > LONGEST_FILE:
        found.append((name, LONGEST_FILE + 1, "L10", "a long file"))


def _parsed(name, text, found):
    with warnings.catch_warnings():
        warnings.simplefilter("error")
        try:
            tree = ast.parse(text)
            compile(text, name, "exec")
            return tree
        except (SyntaxError, SyntaxWarning, DeprecationWarning, ValueError) as why:
            found.append((name, getattr(why, "lineno", 0) or 0, "L27", f"not read without a warning: {why}"))
            return None


def _own_methods(trees):
    return {
        node.name
        for tree in trees.values() if tree is not None
        for part in ast.walk(tree) if isinstance(part, ast.ClassDef)
        for node in part.body if isinstance(node, ast.FunctionDef)
    }


def _docstrings(tree):
    """The nodes of all docstrings."""
    for node in ast.walk(tree):
        if isinstance(node, (ast.Module, ast.ClassDef, ast.FunctionDef)) and node.body:
            first = node.body[0]
            value = first.value if isinstance(first, ast.Expr) else None
            if isinstance(value, ast.Constant) and isinstance(value.value, str):
                yield value


def _words(name, text, tree, found):
    """Words that stand in no file but in comments and docstrings, and escapes."""
    docs = {node.lineno for node in _docstrings(tree)}
    for token in tokenize.generate_tokens(io.StringIO(text).readline):
        at = token.start[0]
        if token.type == tokenize.STRING:
            for escape in re.findall(r"\\(.)", token.string, re.DOTALL):
                if escape not in "nt\\'\"":
                    found.append((name, at, "L27", "an escape"))
        if token.type in (tokenize.COMMENT, tokenize.NL, tokenize.NEWLINE) or at in docs:
            continue
        for word in re.findall(r"\w+", token.string):
            if word in BARRED_WORDS and not (word == "type" and token.type == tokenize.STRING):
                found.append((name, at, "L17", f"the word {word}"))
            if any(part in word for part in ("dataclass", "overload", "contextmanager")):
                found.append((name, at, "L17", f"the word {word}"))


def _imported(node, package):
    """The file of the package that an import names, or None."""
    module = node.module or ""
    return module[len(package) + 1:] + ".py" if module.startswith(package + ".") else None


def _circles(trees, package, found):
    """Files that import from each other, directly or through others."""
    edges = {
        name: [_imported(node, package) for node in tree.body if isinstance(node, ast.ImportFrom)]
        for name, tree in trees.items() if tree is not None
    }
    for name in edges:
        reached, ahead = set(), list(edges[name])
        while ahead:
            other = ahead.pop()
            if other in edges and other not in reached:
                reached.add(other)
                ahead.extend(edges[other])
        if name in reached:
            found.append((name, 1, "L16", "files import from each other"))


def _bound_at_top(tree):
    """The names that a module binds, each with the line of every binding."""
    for node in tree.body:
        if isinstance(node, (ast.FunctionDef, ast.ClassDef)):
            yield node.name, node.lineno
        elif isinstance(node, ast.ImportFrom):
            for part in node.names:
                yield part.asname or part.name, node.lineno
        elif isinstance(node, (ast.Assign, ast.AnnAssign)):
            for target in getattr(node, "targets", None) or [node.target]:
                if isinstance(target, ast.Name):
                    yield target.id, node.lineno


class _File:
    """One file that is held against the rules."""

    def __init__(self, name, tree, trees, package, own, found):
        self.name = name
        self.tree = tree
        self.trees = trees
        self.package = package
        self.own = own
        self.found = found
        self.top = dict(_bound_at_top(tree))
        self.parents = {part: node for node in ast.walk(tree) for part in ast.iter_child_nodes(node)}
        self.bound = set(self.top) | {
            part.id for part in ast.walk(tree) if isinstance(part, ast.Name) and not isinstance(part.ctx, ast.Load)
        }
        for part in ast.walk(tree):
            if isinstance(part, ast.arg):
                self.bound.add(part.arg)
            elif isinstance(part, (ast.ExceptHandler, ast.FunctionDef, ast.MatchAs, ast.MatchStar)) and part.name:
                self.bound.add(part.name)

    def fault(self, node, rule, words):
        self.found.append((self.name, getattr(node, "lineno", 0), rule, words))

    def check(self):
        self.check_top()
        for node in ast.walk(self.tree):
            kind = node.__class__.__name__
            if kind not in NODES:
                self.fault(node, "L6", f"{kind} is not used")
            look = getattr(self, "see_" + kind, None)
            if look is not None:
                look(node)

    def check_top(self):
        docs = list(_docstrings(self.tree))
        imports_over = False
        seen = set()
        for name, at in _bound_at_top(self.tree):
            if name in seen:
                self.found.append((self.name, at, "L15", f"{name} is bound twice"))
            seen.add(name)
        for node in self.tree.body:
            if isinstance(node, ast.ImportFrom):
                if imports_over:
                    self.fault(node, "L2", "an import below the top")
                continue
            if isinstance(node, ast.Expr) and node.value in docs:
                continue
            imports_over = True
            if isinstance(node, ast.Assign):
                self.check_constant(node)
            elif not isinstance(node, (ast.FunctionDef, ast.ClassDef)) and self.name != "__main__.py":
                self.fault(node, "L3", "a statement at module level")

    def check_constant(self, node):
        if len(node.targets) != 1 or not isinstance(node.targets[0], ast.Name):
            self.fault(node, "L3", "not one name at module level")
        for part in ast.walk(node.value):
            if isinstance(part, (ast.Call, ast.ListComp, ast.DictComp, ast.SetComp, ast.Set, ast.Lambda)):
                self.fault(node, "L3", "no plain value at module level")
            if part is not node.value and isinstance(part, (ast.List, ast.Dict)):
                self.fault(node, "L15", "a list or dict inside another value")

    def see_Import(self, node):
        if self.name != "__main__.py" or [(part.name, part.asname) for part in node.names] != [("sys", None)]:
            self.fault(node, "L2", "an import that is not of the form from .. import ..")

    def see_ImportFrom(self, node):
        file = _imported(node, self.package)
        names = [part.name for part in node.names]
        if node.level or "*" in names:
            self.fault(node, "L2", "an import by a dot or a star")
        elif node.module in LIBRARY:
            if any(part.name not in LIBRARY[node.module] or part.asname for part in node.names):
                self.fault(node, "L2", "not of the library")
        elif file is not None and self.trees.get(file) is not None:
            defined = {
                part.name for part in self.trees[file].body if isinstance(part, (ast.FunctionDef, ast.ClassDef))
            } | {
                part.targets[0].id for part in self.trees[file].body
                if isinstance(part, ast.Assign) and isinstance(part.targets[0], ast.Name)
            }
            if not set(names) <= defined or file == "__main__.py":
                self.fault(node, "L16", "not the file that defines the name")
        elif node.module != "__future__" or names != ["annotations"]:
            self.fault(node, "L2", "not a file of the package")
        for part in node.names:
            self.check_bound(node, part.asname or part.name)

    def check_bound(self, node, name):
        """A name that the file gives to something."""
        if name == "_":
            return
        if not name.isascii() or name.startswith(BARRED_STARTS) or re.match(r"_[^A-Za-z]", name):
            self.fault(node, "L12", f"the name {name}")
        if name in BUILTINS or name in BUILTIN_NAMES:
            self.fault(node, "L15", f"the name of a builtin: {name}")
        if name in BARRED_NAMES or FRAME_NAME.fullmatch(name):
            self.fault(node, "L17", f"the barred name {name}")

    def check_local(self, node, name):
        self.check_bound(node, name)
        for part in self.tree.body:
            imported = isinstance(part, ast.ImportFrom) and name in [one.asname or one.name for one in part.names]
            if imported or isinstance(part, ast.ClassDef) and part.name == name:
                self.fault(node, "L15", f"the name of a class or an import: {name}")

    def check_member(self, node, name):
        """The name of a method or an attribute of an own class."""
        if name in DUNDERS:
            return
        if name.startswith("__") or not name.isascii():
            self.fault(node, "L12", f"the name {name}")
        if name in BARRED_EVERYWHERE or FRAME_NAME.fullmatch(name):
            self.fault(node, "L17", f"the barred name {name}")
        if name in OF_VALUES and name not in METHODS or name in ("encode", "decode", "hex"):
            self.fault(node, "L26", f"the name of a method of builtin values: {name}")

    def inside_function(self, node):
        while node in self.parents:
            node = self.parents[node]
            if isinstance(node, (ast.FunctionDef, ast.Lambda)):
                return True
        return False

    def see_FunctionDef(self, node):
        if isinstance(self.parents[node], ast.ClassDef):
            self.check_member(node, node.name)
        else:
            self.check_bound(node, node.name)
        if node.end_lineno - node.lineno + 1 > LONGEST_FUNCTION:
            self.fault(node, "L10", "a long function")
        for one in node.decorator_list:
            word = one.attr if isinstance(one, ast.Attribute) else getattr(one, "id", "")
            if word not in ("property", "staticmethod", "classmethod", "setter"):
                self.fault(node, "L4", "a decorator")
        for value in node.args.defaults + [one for one in node.args.kw_defaults if one is not None]:
            if any(isinstance(part, (ast.List, ast.Dict, ast.Set, ast.Call, ast.Lambda)) for part in ast.walk(value)):
                self.fault(value, "L4", "a default value that is not plain")
        if node.name == "__init__":
            for part in ast.walk(node):
                if isinstance(part, ast.Return) and part.value is not None:
                    self.fault(part, "L28", "__init__ returns something")

    def see_ClassDef(self, node):
        self.check_bound(node, node.name)
        if node.name.startswith("_"):
            self.fault(node, "L12", "the name of a class")
        if node.decorator_list or node.keywords:
            self.fault(node, "L5", "a decorator or a keyword of a class")
        if not isinstance(self.parents[node], ast.Module):
            self.fault(node, "L15", "a class below module level")
        names = [part.name for part in node.body if isinstance(part, ast.FunctionDef) and not part.decorator_list]
        if len(names) != len(set(names)):
            self.fault(node, "L18", "a method defined twice")
        for base in node.bases:
            if not isinstance(base, ast.Name) or base.id not in self.top and base.id not in ERRORS:
                self.fault(node, "L5", "a base class that is not an own class above or an error class")
            elif base.id in ("StopIteration", "AttributeError"):
                self.fault(node, "L18", "an error class under a barred one")

    def see_arg(self, node):
        self.check_local(node, node.arg)

    def see_keyword(self, node):
        if node.arg in ("open", "input", "self") or node.arg in BARRED_EVERYWHERE:
            self.fault(node, "L22", f"the keyword {node.arg}")

    def see_Name(self, node):
        if isinstance(node.ctx, ast.Load):
            if node.id == "_":
                self.fault(node, "L12", "_ is read")
            elif node.id not in self.bound and node.id not in BUILTINS:
                main = self.name == "__main__.py" and node.id in ("print", "sys", "__name__")
                if not main:
                    self.fault(node, "L8", f"{node.id} is no builtin of the language")
        elif self.inside_function(node):
            self.check_local(node, node.id)
        else:
            self.check_bound(node, node.id)

    def see_Attribute(self, node):
        if node.attr in BARRED_EVERYWHERE or FRAME_NAME.fullmatch(node.attr):
            self.fault(node, "L17", f"the barred name {node.attr}")
        if node.attr.startswith("__") and node.attr not in ("__init__", "__class__", "__name__"):
            self.fault(node, "L8", f"the name {node.attr}")
        if isinstance(node.ctx, ast.Store):
            self.check_member(node, node.attr)

    def see_Call(self, node):
        if isinstance(node.func, ast.Constant):
            self.fault(node, "L7", "a literal is called")
        words = [one.arg for one in node.keywords]
        if isinstance(node.func, ast.Name) and node.func.id in BUILTINS and node.func.id not in self.bound:
            if any(word not in KEYWORDS.get(node.func.id, []) for word in words):
                self.fault(node, "L22", "a keyword of a builtin")
            self.check_at_once(node, node.func.id)
        if isinstance(node.func, ast.Attribute):
            name = node.func.attr
            if name in OF_VALUES and name not in METHODS and not name.startswith("__"):
                self.fault(node, "L25", f"the method {name}")
            if name in METHODS and name not in self.own and words and name != "sort":
                self.fault(node, "L25", f"a keyword of {name}")
            if name in ("encode", "decode", "to_bytes", "fromhex"):
                self.fault(node, "L7", f"{name}: bytes are not made here")

    def check_at_once(self, node, name):
        """Sets stand and zips are gone through where they are made."""
        parent = self.parents[node]
        caller = parent.func.id if isinstance(parent, ast.Call) and isinstance(parent.func, ast.Name) else ""
        goes = isinstance(parent, (ast.For, ast.comprehension)) and parent.iter is node
        kept = isinstance(parent, ast.Assign)
        joins = isinstance(parent, ast.Call) and isinstance(parent.func, ast.Attribute) and parent.func.attr == "join"
        if name in ("zip", "enumerate", "reversed", "map") and not (goes or caller in AT_ONCE or joins):
            self.fault(node, "L23", f"{name} is not iterated at once")
        ends = kept or caller in ("sorted", "len") or isinstance(parent, ast.Compare)
        if name in ("set", "frozenset") and not ends:
            self.fault(node, "L24", "a set that goes further")

    def check_set(self, node):
        parent = self.parents[node]
        caller = parent.func.id if isinstance(parent, ast.Call) and isinstance(parent.func, ast.Name) else ""
        joined = isinstance(parent, (ast.Assign, ast.Compare, ast.BinOp))
        if not joined and caller not in ("sorted", "len"):
            self.fault(node, "L24", "a set that goes further")
        if not self.inside_function(node):
            self.fault(node, "L24", "a set out of a function")

    see_Set = see_SetComp = check_set

    def check_listing(self, node):
        if not self.inside_function(node):
            self.fault(node, "L7", "a comprehension out of a function")
        if len(node.generators) > 6 or sum(len(one.ifs) for one in node.generators) > 12:
            self.fault(node, "L7", "a long comprehension")

    see_ListComp = see_DictComp = check_listing

    def see_For(self, node):
        over = node.iter
        wrapped = isinstance(over, ast.Call) and isinstance(over.func, ast.Name)
        if wrapped and over.func.id in ("enumerate", "zip", "reversed"):
            names = [ast.dump(part) for part in over.args]
        else:
            names = [ast.dump(over)]
        for part in [inner for row in node.body for inner in ast.walk(row)]:
            changed = None
            if isinstance(part, ast.Call) and isinstance(part.func, ast.Attribute) and part.func.attr in CHANGING:
                changed = part.func.value
            elif isinstance(part, ast.Subscript) and not isinstance(part.ctx, ast.Load):
                changed = part.value
            if changed is not None and ast.dump(changed) in names:
                self.fault(part, "L23", "what a loop goes over is changed in it")

    def see_Constant(self, node):
        value = node.value
        if isinstance(value, (float, complex, bytes)) or value is ...:
            self.fault(node, "L7", "a value that is not used")
        if isinstance(value, int) and abs(value) >= 10 ** MOST_DIGITS:
            self.fault(node, "L27", "a long number")
        if isinstance(value, str):
            if "%" in value or value.endswith(("._", ".__")):
                self.fault(node, "L27", "a barred sign in a string")
            if re.fullmatch(r"__.*__", value, re.DOTALL) and value != "__main__" or FRAME_NAME.fullmatch(value):
                self.fault(node, "L27", "a barred string")

    def see_BinOp(self, node):
        if isinstance(node.op, ast.Pow) and isinstance(node.left, ast.Constant):
            power = node.right
            if not isinstance(power, ast.Constant) or not 0 <= power.value <= LARGEST_EXPONENT:
                self.fault(node, "L27", "a power without a literal exponent")

    def see_Compare(self, node):
        for way, other in zip(node.ops, node.comparators):
            if isinstance(way, (ast.Is, ast.IsNot)) and not (
                isinstance(other, ast.Constant) and (other.value is None or isinstance(other.value, bool))
            ):
                self.fault(node, "L20", "is without None, True or False")

    def see_ExceptHandler(self, node):
        kinds = node.type.elts if isinstance(node.type, ast.Tuple) else [node.type]
        if node.name:
            self.check_local(node, node.name)
        for kind in kinds:
            if not isinstance(kind, ast.Name) or kind.id not in self.top and kind.id not in CAUGHT:
                self.fault(node, "L19", "a handler without a named error class that may be caught")

    def see_Raise(self, node):
        if node.exc is None:
            return
        made = isinstance(node.exc, ast.Call) and isinstance(node.exc.func, ast.Name)
        if not made or node.exc.func.id not in self.top and node.exc.func.id not in ERRORS:
            self.fault(node, "L19", "an error that is not created on the spot")
