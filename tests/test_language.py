"""The form of the code: the part of the language's rules that can be seen from outside, some of them more strictly."""

import ast
import builtins
import io
import pathlib
import tokenize
import unittest

import ownmoment

FOLDER = pathlib.Path(ownmoment.__file__).parent
FILES = sorted(FOLDER.glob("*.py"))

# What the interface lists; each name is defined in its own file.
INTERFACE = {
    "errors": "MomentError Bothered Endless IsThere NoCommand NoIndex NoOrder NoText NotLet NotThere Nothing NoWay TooMany Unlike Wrong",
    "books": "is_integer is_thing is_book is_run_tuple is_test test_holds kinds_in deeds_in let_by statements_by limited_book with_marks "
             "mirrored_book own_marks",
    "texts": "show_book show_run",
    "reader": "read_book read_run",
    "stands": "is_stand is_ahead_in things_in cut_stand mark_in note_in",
    "player": "Player",
    "runs": "is_run first_wrong_at stand_behind steps_along alone_run",
    "tables": "can_do stands_of is_closed",
    "bothers": "bothered_at first_bother bother_of is_unbothered is_bother",
    "lots": "free_lots bothering_lots",
    "machines": "is_machine is_ahead_by machine_kinds machine_deeds machine_rows first_barred point_behind figures_of led_on row_by row_machine",
    "least": "least_machine needed_at is_least alike_points",
    "twins": "twins_run critical_at live_at",
    "compiler": "machine_of full_machine is_machine_of",
    "back": "book_of",
    "alike": "joint_points are_alike is_parting parting_run",
    "favours": "run_ahead never_worse",
    "beside": "classes_of rank_choices only_kind side_by_side ranks_between class_orders",
    "over": "is_map hand_over jump_of find_map maps_many",
    "store": "Store",
    "late": "Past",
    "lanes": "Lane turns_by",
    "serving": "is_house is_endless_ring most_alone least_alone most_comer most_services least_services most_run least_run endless_ring",
    "turns": "keeps_waiting round_of turns_of shares_of served_ahead",
    "logs": "meeting_moments least_log spare_tuples are_alike_logs can_swap shortest_past",
    "orders": "critical_tuples surely_ahead rows_that_stand order_for_row row_bar",
    "doubts": "choices_many rows_in_doubt choice_for_row ahead_in_doubt",
    "leading": "ways_to_stand prices_to fewest_to is_price_table",
    "places": "fewest_into fewest_out",
    "unseen": "sure_movers points_now fewest_movers",
    "ties": "is_tie is_tied ties_among weavings_between tying_weavings weaving_by",
    "rings": "most_in_chain chain_of ring_of order_fault",
    "closings": "closing_table does_close is_closing_table",
    "ledger": "Ledger",
    "desk": "Desk",
}
PARAMETERS = {
    "errors.Bothered": "self run some at", "errors.IsThere": "self thing", "errors.NoIndex": "self index", "errors.NoOrder": "self pair",
    "errors.NoText": "self line", "errors.NotLet": "self deed thing", "errors.NotThere": "self thing", "errors.TooMany": "self most",
    "errors.Wrong": "self place", "player.Player": "self book",
    "books.is_integer": "thing", "books.is_thing": "thing", "books.is_book": "thing", "books.is_run_tuple": "book thing",
    "books.is_test": "book thing", "books.test_holds": "test mine theirs kind seen side", "books.kinds_in": "book", "books.deeds_in": "book",
    "books.let_by": "book deed", "books.statements_by": "book deed", "books.limited_book": "book some", "books.with_marks": "book table",
    "books.mirrored_book": "book", "books.own_marks": "book", "texts.show_book": "book", "texts.show_run": "run", "reader.read_book": "text",
    "reader.read_run": "text", "stands.is_stand": "book thing", "stands.is_ahead_in": "stand row x y", "stands.things_in": "stand",
    "stands.cut_stand": "stand some", "stands.mark_in": "stand x", "stands.note_in": "stand x y", "runs.is_run": "book thing",
    "runs.first_wrong_at": "book run", "runs.stand_behind": "book run", "runs.steps_along": "book run", "runs.alone_run": "run some",
    "tables.can_do": "book stand things", "tables.stands_of": "book things", "tables.is_closed": "book things stands",
    "bothers.bothered_at": "book run some", "bothers.first_bother": "book run", "bothers.bother_of": "book", "bothers.is_unbothered": "book",
    "bothers.is_bother": "book thing", "lots.free_lots": "book", "lots.bothering_lots": "book", "machines.is_machine": "thing",
    "machines.is_ahead_by": "machine row one other", "machines.machine_kinds": "machine", "machines.machine_deeds": "machine",
    "machines.machine_rows": "machine", "machines.first_barred": "machine run", "machines.point_behind": "machine kind past",
    "machines.figures_of": "machine run", "machines.led_on": "machine figures run now", "machines.row_by": "machine row figures",
    "machines.row_machine": "machine row", "least.least_machine": "machine", "least.needed_at": "machine point", "least.is_least": "machine",
    "least.alike_points": "machine", "twins.twins_run": "kind past index", "twins.critical_at": "book row kind past",
    "twins.live_at": "book row kind past", "compiler.machine_of": "book", "compiler.full_machine": "book",
    "compiler.is_machine_of": "book machine", "back.book_of": "machine", "alike.joint_points": "one other", "alike.are_alike": "one other",
    "alike.is_parting": "one other thing", "alike.parting_run": "one other", "favours.run_ahead": "machine row kind rival",
    "favours.never_worse": "one other row kind rival", "beside.classes_of": "machine", "beside.rank_choices": "one other",
    "beside.only_kind": "machine kind", "beside.side_by_side": "one other ranks", "beside.ranks_between": "machine",
    "beside.class_orders": "one other", "over.is_map": "one other thing", "over.hand_over": "table figures", "over.jump_of": "one other table",
    "over.find_map": "one other", "over.maps_many": "one other", "store.Store": "self machine", "late.Past": "self machine",
    "lanes.Lane": "self machine figures order", "lanes.turns_by": "machine run stops", "serving.is_house": "thing",
    "serving.is_endless_ring": "house x y thing", "serving.most_alone": "house x y", "serving.least_alone": "house x y",
    "serving.most_comer": "house x kind", "serving.most_services": "house figures thing comers",
    "serving.least_services": "house figures thing", "serving.most_run": "house figures thing comers",
    "serving.least_run": "house figures thing", "serving.endless_ring": "house x y", "turns.keeps_waiting": "house",
    "turns.round_of": "house figures", "turns.turns_of": "house figures many", "turns.shares_of": "house figures",
    "turns.served_ahead": "house x y count", "logs.meeting_moments": "machine one other", "logs.least_log": "machine log",
    "logs.spare_tuples": "machine log", "logs.are_alike_logs": "machine one other", "logs.can_swap": "machine log index",
    "logs.shortest_past": "machine kind point", "orders.critical_tuples": "machine log row", "orders.surely_ahead": "machine log before row",
    "orders.rows_that_stand": "machine log before row", "orders.order_for_row": "machine log before row things",
    "orders.row_bar": "machine log before row things", "doubts.choices_many": "machine log doubtful",
    "doubts.rows_in_doubt": "machine log doubtful row", "doubts.choice_for_row": "machine log doubtful row things",
    "doubts.ahead_in_doubt": "machine log doubtful row x y", "leading.ways_to_stand": "machine figure row",
    "leading.prices_to": "machine figures row things", "leading.fewest_to": "machine figures row things",
    "leading.is_price_table": "machine figures row things table", "places.fewest_into": "machine figures row thing many",
    "places.fewest_out": "machine figures row thing many comers", "unseen.sure_movers": "machine figures row things",
    "unseen.points_now": "machine figures row things", "unseen.fewest_movers": "machine figures row things", "ties.is_tie": "rows thing",
    "ties.is_tied": "machine tie one other", "ties.ties_among": "machine tie figures", "ties.weavings_between": "machine one other",
    "ties.tying_weavings": "machine tie one other", "ties.weaving_by": "one other", "rings.most_in_chain": "machine tie",
    "rings.chain_of": "machine tie many", "rings.ring_of": "machine tie", "rings.order_fault": "machine tie",
    "closings.closing_table": "machine tie", "closings.does_close": "machine tie entry", "closings.is_closing_table": "machine tie thing",
    "ledger.Ledger": "self book", "desk.Desk": "self text",
}
METHODS_OF = {
    "player.Player": {"do": "deed thing", "last_steps": "", "stand_now": "", "row_now": "row", "run_done": "", "mark_of": "x", "note_of": "x y",
                      "undo": "", "copied": "", "__eq__": "other"},
    "store.Store": {"do": "deed thing", "now": "", "many": "", "place_of": "thing", "row": "", "figures": "", "figure_of": "thing",
                    "thing_at": "index", "foremost": "points", "copied": ""},
    "late.Past": {"put_in": "index deed thing", "take_out": "index", "undo": "", "redo": "", "log": "", "row": "", "figures": "",
                  "indexes_of": "thing"},
    "lanes.Lane": {"row": "", "wrong_at": "", "settle": "", "figures": "", "many_wrong": "", "turn": "index", "do": "deed thing", "copied": ""},
    "ledger.Ledger": {"set_begin": "kind mark", "set_deed": "deed entry", "drop_deed": "", "keep": "claim", "drop": "index", "undo": "", "redo": "",
                      "claims_now": "", "states_now": "", "deeds_done": "", "book_now": "", "many_undone": ""},
    "desk.Desk": {"book_now": "", "do": "command"},
}

BUILTINS = {"len", "range", "enumerate", "zip", "min", "max", "sum", "abs", "sorted", "reversed", "int", "str", "bool", "list", "tuple", "dict",
            "set", "isinstance", "any", "all", "divmod", "ValueError"}
ITERATED = {"range", "enumerate", "zip", "reversed"}
METHODS = {"append", "count", "endswith", "extend", "find", "get", "index", "insert", "items", "join", "keys", "lstrip", "partition", "pop",
           "remove", "replace", "rstrip", "setdefault", "split", "startswith", "strip", "values"}
CHANGING = {"append", "extend", "insert", "pop", "remove", "setdefault", "clear", "update", "reverse"}
BARRED = {"register", "mro", "elements", "open", "input", "law", "version_info", "with_traceback", "add_note", "attrgetter", "breakpoint",
          "builtins", "compile", "copyright", "credits", "delattr", "dir", "eval", "exec", "exit", "gc", "getattr", "globals", "hasattr", "help",
          "id", "importlib", "license", "locals", "methodcaller", "os", "quit", "setattr", "super", "type", "vars", "sys", "typing", "enum",
          "namedtuple", "dataclass", "overload", "contextmanager"}
STATEMENTS = (ast.Assign, ast.AugAssign, ast.If, ast.While, ast.For, ast.Return, ast.Break, ast.Continue, ast.Pass, ast.Raise, ast.Delete,
              ast.Expr, ast.FunctionDef, ast.ClassDef, ast.ImportFrom, ast.Try)
EXPRESSIONS = (ast.Constant, ast.Name, ast.Attribute, ast.Subscript, ast.Slice, ast.Call, ast.BinOp, ast.UnaryOp, ast.BoolOp, ast.Compare,
               ast.IfExp, ast.List, ast.Tuple, ast.Dict, ast.ListComp, ast.DictComp, ast.Lambda, ast.JoinedStr, ast.FormattedValue, ast.Starred)
OTHERS = (ast.Module, ast.ExceptHandler, ast.arguments, ast.arg, ast.comprehension, ast.alias, ast.keyword, ast.expr_context, ast.operator, ast.unaryop,
          ast.boolop, ast.cmpop)


def tree_of(file):
    return ast.parse(file.read_text(encoding="ascii"))


def functions_in(tree):
    return [node for node in ast.walk(tree) if isinstance(node, ast.FunctionDef)]


def bound_in(function):
    """The names that a function binds: parameters, targets, lambdas' parameters."""
    names = [node.arg for node in ast.walk(function) if isinstance(node, ast.arg)]
    return names + [node.id for node in ast.walk(function) if isinstance(node, ast.Name) and not isinstance(node.ctx, ast.Load)]


class LanguageTest(unittest.TestCase):

    def each(self):
        for file in FILES:
            with self.subTest(file=file.name):
                yield file, tree_of(file)

    def test_files(self):
        self.assertGreater(len(FILES), 11)
        for path in FOLDER.rglob("*"):
            if "__pycache__" not in path.parts:
                self.assertTrue(path.parent == FOLDER and path.suffix == ".py" and path.name == path.name.lower(), path)
        for file, _ in self.each():
            text = file.read_bytes()
            self.assertTrue(all(sign == 10 or 32 <= sign <= 126 for sign in text))
            lines = text.decode("ascii").split("\n")
            self.assertLessEqual(len(lines), 400)
            self.assertLessEqual(max(map(len, lines)), 120)
            self.assertEqual(lines[-1], "")

    def test_sizes_of_functions(self):
        for _, tree in self.each():
            for function in functions_in(tree):
                self.assertLessEqual(function.end_lineno - function.lineno + 1, 40, function.name)
                self.assertEqual(function.decorator_list, [])
                self.assertEqual((function.args.defaults, function.args.kwonlyargs, function.args.vararg, function.args.kwarg), ([], [], None, None))

    def test_nodes(self):
        for _, tree in self.each():
            for node in ast.walk(tree):
                self.assertIsInstance(node, STATEMENTS + EXPRESSIONS + OTHERS, ast.dump(node)[:80])
                if isinstance(node, ast.Compare) and any(isinstance(sign, (ast.Is, ast.IsNot)) for sign in node.ops):
                    self.assertTrue(isinstance(node.comparators[0], ast.Constant) and any(node.comparators[0].value is one for one in (None, True, False)))
                if isinstance(node, ast.BinOp):
                    self.assertIsInstance(node.op, (ast.Add, ast.Sub, ast.Mult, ast.FloorDiv))
                if isinstance(node, ast.Constant):
                    self.assertIsInstance(node.value, (int, str, type(None)))
                    if isinstance(node.value, str):
                        self.assertNotIn("%", node.value)
                if isinstance(node, ast.Try):
                    self.check_try(node)
                if isinstance(node, ast.Raise):
                    self.assertTrue(isinstance(node.exc, ast.Call) and isinstance(node.exc.func, ast.Name) and node.cause is None)

    def check_try(self, node):
        """Own errors alone are caught, by their names, and nothing is made of them."""
        self.assertEqual((node.orelse, node.finalbody), ([], []))
        for handler in node.handlers:
            self.assertIsNone(handler.name)
            names = handler.type.elts if isinstance(handler.type, ast.Tuple) else [handler.type]
            self.assertTrue(all(isinstance(name, ast.Name) and name.id in INTERFACE["errors"].split() and name.id != "MomentError" for name in names))

    def test_module_level(self):
        for _, tree in self.each():
            self.assertTrue(ast.get_docstring(tree))
            body = tree.body[1:]
            names = []
            for node in body:
                if isinstance(node, ast.ImportFrom):
                    self.assertEqual(node.level, 0)
                    self.assertTrue(node.module.startswith("ownmoment."))
                    names += [one.name for one in node.names]
                    self.assertTrue(all(one.asname is None for one in node.names))
                elif isinstance(node, ast.Assign):
                    self.assertTrue(len(node.targets) == 1 and isinstance(node.targets[0], ast.Name))
                    names.append(node.targets[0].id)
                    for part in ast.walk(node.value):
                        self.assertNotIsInstance(part, (ast.Call, ast.ListComp, ast.DictComp, ast.Lambda))
                else:
                    self.assertIsInstance(node, (ast.FunctionDef, ast.ClassDef))
                    names.append(node.name)
            self.assertEqual(len(names), len(set(names)))
            kinds = [isinstance(node, ast.ImportFrom) for node in body]
            self.assertEqual(kinds, sorted(kinds, reverse=True))
            self.assertFalse(set(names) & set(dir(builtins)))

    def test_imports_name_the_file_that_defines(self):
        defined, imported = {}, {}
        for file in FILES:
            tree = tree_of(file)
            defined[file.stem] = {node.name for node in tree.body if isinstance(node, (ast.FunctionDef, ast.ClassDef))}
            defined[file.stem] |= {node.targets[0].id for node in tree.body if isinstance(node, ast.Assign)}
            imported[file.stem] = [node for node in tree.body if isinstance(node, ast.ImportFrom)]
        order = {}

        def depth(name, above=()):
            self.assertNotIn(name, above)
            if name not in order:
                order[name] = 1 + max([depth(node.module.split(".")[1], (*above, name)) for node in imported[name]], default=0)
            return order[name]
        for name, nodes in imported.items():
            depth(name)
            text = (FOLDER / f"{name}.py").read_text()
            for node in nodes:
                for one in node.names:
                    self.assertIn(one.name, defined[node.module.split(".")[1]])
                    self.assertGreater(text.count(one.name), 1, (name, one.name))

    def test_names(self):
        for _, tree in self.each():
            taken = {one.name for node in tree.body if isinstance(node, ast.ImportFrom) for one in node.names}
            taken |= {node.name for node in tree.body if isinstance(node, (ast.ClassDef, ast.FunctionDef))}
            for function in functions_in(tree):
                for name in bound_in(function):
                    self.assertNotIn(name, taken, function.name)
                    self.assertNotIn(name, dir(builtins), function.name)
            for node in ast.walk(tree):
                name = getattr(node, "id", None) or getattr(node, "arg", None) or getattr(node, "name", None) or getattr(node, "attr", None)
                if isinstance(name, str):
                    self.assertFalse(name.startswith("__") and name not in ("__init__", "__eq__"), name)
                    self.assertNotIn(name, BARRED)
                if isinstance(node, ast.Name) and node.id == "_":
                    self.assertIsInstance(node.ctx, ast.Store)

    def test_names_in_comprehensions(self):
        """Within another comprehension, a variable is a name that nothing further out assigns."""
        comprehensions = (ast.ListComp, ast.DictComp)

        def targets(node):
            return {one.id for part in node.generators for one in ast.walk(part.target) if isinstance(one, ast.Name)} - {"_"}

        def check(node, taken, is_nested):
            for child in ast.iter_child_nodes(node):
                if isinstance(child, comprehensions):
                    if is_nested:
                        self.assertFalse(targets(child) & taken, targets(child) & taken)
                    check(child, taken | targets(child), True)
                else:
                    check(child, taken, is_nested)

        def assigned(node):
            names = {node.id} if isinstance(node, ast.Name) and isinstance(node.ctx, ast.Store) else set()
            return names.union(*(assigned(child) for child in ast.iter_child_nodes(node) if not isinstance(child, comprehensions)))
        for _, tree in self.each():
            for function in functions_in(tree):
                check(function, assigned(function) | {one.arg for one in function.args.args}, False)

    def test_words(self):
        for file, tree in self.each():
            docs = {ast.get_docstring(node, clean=False) for node in ast.walk(tree)
                    if isinstance(node, (ast.Module, ast.ClassDef, ast.FunctionDef))}
            for node in ast.walk(tree):
                if isinstance(node, ast.Constant) and isinstance(node.value, str) and node.value not in docs:
                    self.assertFalse(set(node.value.replace(".", " ").split()) & BARRED)
            for token in tokenize.generate_tokens(io.StringIO(file.read_text()).readline):
                self.assertNotIn("\t", token.line)
                self.assertNotIn("_wall", token.string)

    def test_calls(self):
        own = {node.name for file in FILES for node in ast.walk(tree_of(file)) if isinstance(node, ast.FunctionDef)}
        for _, tree in self.each():
            parents = {child: node for node in ast.walk(tree) for child in ast.iter_child_nodes(node)}
            for node in ast.walk(tree):
                if not isinstance(node, ast.Call):
                    continue
                if isinstance(node.func, ast.Attribute):
                    self.assertIn(node.func.attr, METHODS | own)
                    continue
                self.assertIsInstance(node.func, ast.Name)
                name = node.func.id
                if name in dir(builtins):
                    self.assertIn(name, BUILTINS)
                if name in ITERATED:
                    self.check_iterated(node, parents)
                if name == "set":
                    self.assertEqual(getattr(getattr(parents[node], "func", None), "id", None), "len")
                if name == "sorted":
                    self.assertTrue(all(one.arg == "key" for one in node.keywords))

    def check_iterated(self, node, parents):
        """zip and the like are iterated on the spot."""
        parent = parents[node]
        if isinstance(parent, (ast.For, ast.comprehension)):
            self.assertIs(parent.iter, node)
        else:
            self.assertTrue(isinstance(parent, ast.Call) and parent.func.id in ("list", "tuple", "sorted", "enumerate", "zip"))

    def test_what_a_loop_goes_over_is_not_changed_in_it(self):
        for _, tree in self.each():
            for loop in ast.walk(tree):
                if not isinstance(loop, ast.For):
                    continue
                over = {ast.dump(part).replace("Store", "Load") for part in self.gone_over(loop.iter)}
                for node in [part for line in loop.body for part in ast.walk(line)]:
                    changed = []
                    if isinstance(node, ast.Call) and isinstance(node.func, ast.Attribute) and node.func.attr in CHANGING:
                        changed = [node.func.value]
                    elif isinstance(node, (ast.Assign, ast.AugAssign, ast.Delete)):
                        targets = [node.target] if isinstance(node, ast.AugAssign) else node.targets
                        changed = [part.value for target in targets for part in ast.walk(target) if isinstance(part, ast.Subscript)]
                    for part in changed:
                        self.assertNotIn(ast.dump(part), over)

    def gone_over(self, node):
        if isinstance(node, ast.Call):
            if isinstance(node.func, ast.Name) and node.func.id in ("enumerate", "zip", "reversed"):
                return [part for one in node.args for part in self.gone_over(one)]
            if isinstance(node.func, ast.Attribute):
                return [node.func.value]
            return []
        return [node]

    def test_interface(self):
        for stem, names in INTERFACE.items():
            tree = tree_of(FOLDER / f"{stem}.py")
            nodes = {node.name: node for node in tree.body if isinstance(node, (ast.FunctionDef, ast.ClassDef))}
            for name in names.split():
                self.assertIn(name, nodes)
                node = nodes[name]
                if isinstance(node, ast.ClassDef):
                    made = [one for one in node.body if isinstance(one, ast.FunctionDef) and one.name == "__init__"]
                    self.assertEqual(len(made), int(f"{stem}.{name}" in PARAMETERS))
                    node = made[0] if made else None
                if node is not None:
                    self.assertEqual(" ".join(one.arg for one in node.args.args), PARAMETERS[f"{stem}.{name}"])
        for place, methods in METHODS_OF.items():
            stem, name = place.split(".")
            found = [node for node in tree_of(FOLDER / f"{stem}.py").body if isinstance(node, ast.ClassDef) and node.name == name][0]
            defined = {node.name: " ".join(one.arg for one in node.args.args) for node in found.body if isinstance(node, ast.FunctionDef)}
            for method, parameters in methods.items():
                self.assertEqual(defined[method], f"self {parameters}".strip())


if __name__ == "__main__":
    unittest.main()
