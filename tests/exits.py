"""What the language lets stand in an __exit__ (LANGUAGE.md, L6 With), held against a file's tree.

It is narrower in this: an __exit__ calls nothing, not even what it may call.
"""

import ast

HEAD = """class Block:
    def __exit__(self, kind, value, trace):
        host = self.host
        {}
        host.innermost = self.outer
"""
# Each stands alone in its row: found where a class of the package has __eq__ or __len__, else not.
ALONE_ROWS = [
    "if kind is not None or not self.kept: host.latest = self.latest",
    "if kind is not None or self.kept: host.latest = self.latest",
    "if self.kept: pass",
    "if not self.kept: pass",
    "if host: pass",
    "if self.kept is None and (kind is None or host.kept): pass",
    "if self.kept == 1: pass",
    "if host.many >= 3: pass",
]
WRONG_ROWS = [
    "if kind: pass",
    "if not kind: pass",
    "if kind == 1: pass",
    "if kind is True: pass",
    "if self.kept is True: pass",
    "if self.kept is not False: pass",
    "if self.kept is host: pass",
    "if None is self.kept: pass",
    "if value is None: pass",
    "if trace is not None: pass",
    "if self.kept is None is None: pass",
    "if self.kept == host: pass",
    "if 3 <= self.many: pass",
    "if self.many in (1, 2): pass",
    "if len(self.rows): pass",
    "if self.rows[0] is None: pass",
    "if True: pass",
    "if (self.kept if host else host) is None: pass",
    "host = self.other",
    "other = self.host.other",
    "other = host",
    "other = None",
    "host.latest = kind",
    "host.latest = value",
    "host.latest = -1",
    "host.latest = self.rows[0]",
    "host.latest = self.latest if kind is None else None",
    "host.latest = not self.kept",
    "host.latest = [self.latest, trace]",
    "host.latest = {}",
    "host.latest = self.many - self.other",
    "host.latest = host.undone = None",
    "host.latest, host.undone = self.latest, self.undone",
    "host.rows[0] = self.latest",
    "host.many -= self.many",
    "host.many *= 2",
    "host.many += self.many",
    "host.keep()",
    "self.keep()",
    "host.rows.pop()",
    "host.rows.append(kind)",
    "host.rows.append(-1)",
    "host.rows.append(1, 2)",
    "host.rows.clear(1)",
    "rows.append(1)",
    "self.kept",
    "del host.latest",
    "return True",
    "return self",
    "raise KeyError",
    "assert kind is None",
    "for row in self.rows: pass",
    "while kind is None: pass",
    "with self.other: pass",
]
RIGHT_ROWS = [
    "if kind is not None or self.kept is None: host.latest = self.latest",
    "if kind is None and self.kept is not None: pass",
    "if not (kind is None or host is None): pass",
    "pass",
    "return",
    "return None",
    "return False",
    "other = self.other",
    "host.latest = None",
    "host.latest = 'a word'",
    "host.latest = host",
    "host.latest = self.inner.latest",
    "host.latest = [self.latest, (host, 1)]",
    "host.latest = self.rows + [self.latest]",
    "host.many = self.many - 1",
    "host.many += 1",
    "host.many -= 1",
    "host.rows += [self.latest]",
    "host.rows.append(self.latest)",
    "host.rows.clear()",
    "rows = self.rows; rows.append(host)",
]


def exit_of(row):
    """The tree of a class whose __exit__ has this row as its second, in line 4."""
    return ast.parse(HEAD.format(row))


def exits_in(tree):
    return [node for node in ast.walk(tree) if isinstance(node, ast.FunctionDef) and node.name == "__exit__"]


def asks_alone(trees):
    """Whether an __exit__ may ask an attribute or a name alone, or compare it: no class has __eq__ or __len__."""
    told = [row for tree in trees for node in ast.walk(tree) if isinstance(node, ast.ClassDef) for row in node.body]
    return not [row for row in told if isinstance(row, ast.FunctionDef) and row.name in ("__eq__", "__len__")]


def refused_rows(tree, alone):
    """The lines of the rows of each __exit__ that may not stand there, in sequence."""
    return sorted([line for node in exits_in(tree) for line in Exit(node, alone).refused()])


class Exit:
    """One __exit__: `names` are the names that it gave an attribute of self."""

    def __init__(self, node, alone):
        self.node = node
        self.alone = alone
        self.me, self.kind, *self.unread = [told.arg for told in node.args.args]
        self.names = []

    def refused(self):
        return self.refused_among(self.node.body)

    def refused_among(self, rows):
        lines = []
        for row in rows:
            if isinstance(row, ast.If):
                lines += [] if self.is_test(row.test) else [row.lineno]
                lines += self.refused_among(row.body) + self.refused_among(row.orelse)
            elif not self.may_stand(row):
                lines.append(row.lineno)
        return lines

    def may_stand(self, row):
        if isinstance(row, ast.Return):
            return row.value is None or ast.unparse(row.value) in ("None", "False")
        if isinstance(row, ast.Assign):
            return len(row.targets) == 1 and self.is_assignment(row.targets[0], row.value)
        if isinstance(row, ast.AugAssign):
            return self.is_attribute(row.target) and self.is_step(row.op, row.value)
        if isinstance(row, ast.Expr):
            return isinstance(row.value, ast.Call) and self.is_call(row.value)
        return isinstance(row, ast.Pass)

    def is_assignment(self, target, value):
        if isinstance(target, ast.Name):
            own = isinstance(value, ast.Attribute) and ast.unparse(value.value) == self.me
            fresh = target.id not in self.names + [self.me, self.kind, *self.unread]
            self.names.append(target.id)
            return own and fresh
        return self.is_attribute(target) and self.is_such(value)

    def is_step(self, sign, value):
        if isinstance(sign, ast.Sub):
            return is_number(value)
        if isinstance(value, ast.List):
            return isinstance(sign, ast.Add) and self.is_such(value)
        return isinstance(sign, ast.Add) and isinstance(value, ast.Constant)

    def is_call(self, call):
        what = call.func
        if call.keywords or not isinstance(what, ast.Attribute):
            return False
        if not self.is_attribute(what.value) and not self.is_name(what.value):
            return False
        if what.attr == "append":
            return len(call.args) == 1 and self.is_such(call.args[0])
        return what.attr == "clear" and not call.args

    def is_such(self, value):
        """Whether the value is one that an attribute may be assigned."""
        if isinstance(value, (ast.List, ast.Tuple)):
            return not [inner for inner in value.elts if not self.is_such(inner)]
        if isinstance(value, ast.BinOp):
            right = self.is_such(value.right) if isinstance(value.op, ast.Add) else is_number(value.right)
            return isinstance(value.op, (ast.Add, ast.Sub)) and self.is_such(value.left) and right
        return isinstance(value, ast.Constant) or self.is_name(value) or self.is_attribute(value)

    def is_name(self, value):
        return isinstance(value, ast.Name) and value.id in self.names + [self.me]

    def is_attribute(self, value):
        return isinstance(value, ast.Attribute) and (self.is_name(value.value) or self.is_attribute(value.value))

    def is_test(self, test):
        if isinstance(test, ast.BoolOp):
            return not [inner for inner in test.values if not self.is_test(inner)]
        if isinstance(test, ast.UnaryOp):
            return isinstance(test.op, ast.Not) and self.is_test(test.operand)
        if isinstance(test, ast.Compare):
            return len(test.ops) == 1 and self.is_comparison(test.left, test.ops[0], test.comparators[0])
        return self.alone and (self.is_name(test) or self.is_attribute(test))

    def is_comparison(self, left, sign, right):
        told = self.is_name(left) or self.is_attribute(left)
        if isinstance(sign, (ast.Is, ast.IsNot)):
            return ast.unparse(right) == "None" and (told or ast.unparse(left) == self.kind)
        signs = (ast.Eq, ast.NotEq, ast.Lt, ast.LtE, ast.Gt, ast.GtE)
        return self.alone and told and isinstance(sign, signs) and isinstance(right, ast.Constant)


def is_number(value):
    return isinstance(value, ast.Constant) and type(value.value) is int
