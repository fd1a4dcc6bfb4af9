"""Which rows may stand where a `with` statement is left: the rule L6 With of LANGUAGE.md, taken at its narrowest."""

import ast


def is_of_self(node):
    """Whether this is an attribute off `self`."""
    return isinstance(node, ast.Attribute) and isinstance(node.value, ast.Name) and node.value.id == "self"


def is_written(node, kinds):
    return isinstance(node, ast.Constant) and type(node.value) in kinds


class Leaving:
    """The `__exit__` of a class, if it has one, and the methods of the class that it calls."""

    def __init__(self, shape):
        own = {node.name: node for node in shape.body if isinstance(node, ast.FunctionDef)}
        self.exit = own.get("__exit__")
        self.methods = [] if self.exit is None else [self.exit]
        for node in [] if self.exit is None else ast.walk(self.exit):
            if isinstance(node, ast.Call) and is_of_self(node.func) and node.func.attr in own:
                self.methods.append(own[node.func.attr])
        self.called = [method.name for method in self.methods[1:]]
        self.held = []

    def wrong(self):
        """The rows that may not stand there, as text."""
        self.held = []
        found = []
        for method in self.methods:
            rows = method.body[1:] if ast.get_docstring(method) is not None else method.body
            found += [ast.unparse(row) for row in rows if not self.may_stand(row)]
        # Only one row of them all may be like `net = self.net`.
        return found + self.held[1:]

    def may_stand(self, row):
        if isinstance(row, ast.Pass):
            return True
        if isinstance(row, ast.Return):
            return row.value is None or is_written(row.value, (bool, type(None))) and not row.value.value
        if isinstance(row, ast.If):
            return self.may_ask(row.test) and all([self.may_stand(told) for told in row.body + row.orelse])
        if isinstance(row, ast.AugAssign):
            kinds = (int, str) if isinstance(row.op, ast.Add) else (int,)
            return isinstance(row.op, (ast.Add, ast.Sub)) and is_of_self(row.target) and is_written(row.value, kinds)
        if isinstance(row, ast.Assign):
            return len(row.targets) == 1 and self.may_be_given(row.targets[0], row.value)
        return isinstance(row, ast.Expr) and isinstance(row.value, ast.Call) and self.may_be_called(row.value)

    def may_be_given(self, target, value):
        if isinstance(target, ast.Name):
            self.held.append(target.id)
            return is_of_self(value)
        return (is_of_self(target) or self.is_of_held(target)) and self.is_simple(value)

    def may_be_called(self, call):
        if call.keywords or not isinstance(call.func, ast.Attribute):
            return False
        if is_of_self(call.func):
            return call.func.attr in self.called and not call.args
        if not is_of_self(call.func.value) and not self.is_held(call.func.value):
            return False
        if call.func.attr == "append":
            return len(call.args) == 1 and self.is_simple(call.args[0])
        return call.func.attr == "clear" and not call.args

    def may_ask(self, test):
        if isinstance(test, ast.BoolOp):
            return all([self.may_ask(told) for told in test.values])
        if isinstance(test, ast.UnaryOp):
            return isinstance(test.op, ast.Not) and self.may_ask(test.operand)
        # Beside `__bool__` and `__eq__`, which the package has, no attribute is asked.
        if not isinstance(test, ast.Compare) or not isinstance(test.left, ast.Name) or test.left.id != "kind":
            return False
        by_none = len(test.ops) == 1 and is_written(test.comparators[0], (type(None),))
        return by_none and isinstance(test.ops[0], (ast.Is, ast.IsNot))

    def is_held(self, node):
        return isinstance(node, ast.Name) and node.id in self.held

    def is_of_held(self, node):
        return isinstance(node, ast.Attribute) and self.is_held(node.value)

    def is_simple(self, value):
        if isinstance(value, (ast.List, ast.Tuple)):
            return all([self.is_simple(told) for told in value.elts])
        if isinstance(value, ast.BinOp) and isinstance(value.op, ast.Add):
            return self.is_simple(value.left) and self.is_simple(value.right)
        if isinstance(value, ast.BinOp) and isinstance(value.op, ast.Sub):
            return self.is_simple(value.left) and is_written(value.right, (int,))
        return is_of_self(value) or self.is_held(value) or isinstance(value, ast.Constant)


def leaving_of(row, shut="pass"):
    """The one of a class with this row, or rows, in `__exit__`, and with a method `shut` of such rows."""
    methods = (("__exit__(self, kind, value, trace)", row), ("shut(self)", shut), ("open(self)", "raise self.wrong"))
    text = "class Held:\n"
    for head, rows in methods:
        text += f"    def {head}:\n" + "".join([f"        {line}\n" for line in rows.split("\n")])
    return Leaving(ast.parse(text).body[0])
