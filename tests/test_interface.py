import importlib
import inspect
import unittest

FUNCTIONS = {
    "lines": "comes(comers, comings) waits(comers, bound, comings) lines(comers, bound, comings) "
             "outs(comers, bound, comings) spots(comers, bound) nexts(comers, bound, spot) "
             "walk(comers, bound, comings) comings_for(comers, bound, row)",
    "tables": "entries(table)",
    "clashes": "clashes(table, comers) safe(table, comers)",
    "meetings": "meeting(table, comers) is_meeting(table, comers, thing)",
    "days": "day(table, comers, comings) inside(table, comers, comings, tick) "
            "is_day(loops, comers, bound, comings, thing)",
    "knowing": "ahead(loops, comers, bound, comings)",
    "sizes": "reach(loops) fewest(bound) flood(loops) lengths(bound)",
    "doubling": "doubling(loops) digits(loops, wait) doubling_table(loops) doubling_lists(total)",
    "search": "rows_for(loops, wait) friends(loops, comers, row, other) table_for(loops, comers, bound) "
              "completed(loops, comers, bound, told) greatest_table(loops, comers) count_tables(loops, comers, bound)",
    "bars": "barred(loops, comers, bound) is_barred(loops, comers, bound, thing)",
    "games": "closed(loops, comers, bound) lost(loops, comers, bound) closed_of(table, comers) "
             "is_closed(loops, comers, bound, thing) is_lost(loops, comers, bound, thing) greatest_kept(loops, comers)",
    "players": "led(loops, comers, bound, plan, comings)",
    "loads": "fullest(table, comers, loop) busiest(table, comers)",
    "rates": "rate(comers, bound, weights) share(table, comers, loop) work(table, comers) "
             "rate_paper(comers, bound, weights, fraction) is_rate_paper(comers, bound, weights, fraction, thing) "
             "ahead_of(one, other, comers)",
    "trees": "tree_outs(tree, doorings) tree_lost(tree, doorings) tree_comings(tree, doorings) tree_lines(tree, doorings) "
             "tree_meeting(tree) is_tree_meeting(tree, thing)",
    "longs": "long_line(comers, bound, long) long_counts(comers, bound, long) settled(comers, bound, comings) "
             "lost_share(comers, bound, comings)",
    "lots": "needed(loops, comers, bound) needed_tables(loops, comers, bound) cheapest(prices, comers, bound) "
            "lightest(loops, comers, bound)",
    "changes": "crossings(one, other, comers) changed_day(one, other, comers, comings, tick) smooth(tables, comers) "
               "crossing(one, other, comers) change_way(tables, comers, first, last) is_crossing(one, other, comers, thing)",
    "texts": "table_text(table) comings_text(comings) day_text(thing) read_table(text) read_comings(text) read_day(text)",
    "stands": "layings_out(loops, comers, bound, stand, number) behind(loops, comers, bound, stand, number, thing)",
}


CLASSES = {
    "tables": {"Table(loops, rows)": "__eq__(self, other)"},
    "players": {
        "Switch(loops, comers, bound)": "stand(self) come(self, number) ticks(self) back(self)",
        "Caller(loops, comers, bound)": "stand(self) number(self) lay(self, thing) over(self) left(self)",
    },
    "stores": {
        "Store(table, comers)": "come(self, number) ticks(self) letters(self) inside(self) wait_of(self, letter) "
                                "layings(self) back(self) copy(self) trying(self, action)",
    },
    "benches": {
        "Bench(loops, comers)": "put(self, row) strike(self, wait) kept_rows(self) clashes(self) free_rows(self, wait) "
                                "table(self) back(self) depth(self) copy(self) trying(self, action)",
    },
    "trees": {"Tree(nodes)": "__eq__(self, other)"},
    "desk": {"Desk()": "tell(self, line) undoable(self)"},
}


class InterfaceTest(unittest.TestCase):
    def test_functions_are_defined_in_their_files_with_their_arguments(self):
        for name, told in FUNCTIONS.items():
            module = importlib.import_module("loopstore." + name)
            for told_one in told.replace(") ", ")|").split("|"):
                with self.subTest(told_one):
                    function = getattr(module, told_one.partition("(")[0])
                    self.assertTrue(inspect.isfunction(function))
                    self.assertEqual(function.__module__, module.__name__)
                    self.assertEqual(function.__name__ + str(inspect.signature(function)), told_one)

    def test_classes_are_defined_in_their_files_with_their_own_methods(self):
        for name, classes in CLASSES.items():
            module = importlib.import_module("loopstore." + name)
            for told, methods in classes.items():
                with self.subTest(told):
                    made = getattr(module, told.partition("(")[0])
                    self.assertTrue(inspect.isclass(made))
                    self.assertEqual(made.__module__, module.__name__)
                    self.assertEqual(made.__name__ + str(inspect.signature(made)), told)
                    for method in methods.replace(") ", ")|").split("|"):
                        own = vars(made)[method.partition("(")[0]]
                        self.assertEqual(own.__name__ + str(inspect.signature(own)), method)

    def test_errors_are_defined_in_their_file(self):
        module = importlib.import_module("loopstore.errors")
        for name, thing in vars(module).items():
            if inspect.isclass(thing):
                with self.subTest(name):
                    self.assertEqual(thing.__module__, "loopstore.errors")


if __name__ == "__main__":
    unittest.main()
