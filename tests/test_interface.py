import importlib
import inspect
import unittest

FUNCTIONS = {
    "lines": "comes(comers, comings) waits(comers, bound, comings) lines(comers, bound, comings) "
             "outs(comers, bound, comings) spots(comers, bound) nexts(comers, bound, spot) "
             "walk(comers, bound, comings) comings_for(comers, bound, row)",
    "tables": "entries(table)",
    "clashes": "clashes(table, comers) safe(table, comers)",
    "meetings": "meeting(table, comers) is_meeting(table, comers, thing)",
    "days": "day(table, comers, comings) inside(table, comers, comings, tick) "
            "is_day(loops, comers, bound, comings, thing)",
    "knowing": "ahead(loops, comers, bound, comings)",
    "sizes": "reach(loops) fewest(bound) flood(loops) lengths(bound)",
    "doubling": "doubling(loops) digits(loops, wait) doubling_table(loops) doubling_lists(total)",
    "search": "rows_for(loops, wait) friends(loops, comers, row, other) table_for(loops, comers, bound) "
              "completed(loops, comers, bound, told) greatest_table(loops, comers) count_tables(loops, comers, bound)",
    "bars": "barred(loops, comers, bound) is_barred(loops, comers, bound, thing)",
    "stands": "layings_out(loops, comers, bound, stand, number) behind(loops, comers, bound, stand, number, thing)",
}


class InterfaceTest(unittest.TestCase):
    def test_functions_are_defined_in_their_files_with_their_arguments(self):
        for name, told in FUNCTIONS.items():
            module = importlib.import_module("loopstore." + name)
            for told_one in told.replace(") ", ")|").split("|"):
                with self.subTest(told_one):
                    function = getattr(module, told_one.partition("(")[0])
                    self.assertTrue(inspect.isfunction(function))
                    self.assertEqual(function.__module__, module.__name__)
                    self.assertEqual(function.__name__ + str(inspect.signature(function)), told_one)

    def test_table_is_a_class_of_its_file_with_its_own_methods(self):
        module = importlib.import_module("loopstore.tables")
        self.assertTrue(inspect.isclass(module.Table))
        self.assertEqual(module.Table.__module__, "loopstore.tables")
        self.assertEqual(str(inspect.signature(module.Table)), "(loops, rows)")
        self.assertIn("__eq__", vars(module.Table))
        self.assertIn("__init__", vars(module.Table))

    def test_errors_are_defined_in_their_file(self):
        module = importlib.import_module("loopstore.errors")
        for name, thing in vars(module).items():
            if inspect.isclass(thing):
                with self.subTest(name):
                    self.assertEqual(thing.__module__, "loopstore.errors")


if __name__ == "__main__":
    unittest.main()
