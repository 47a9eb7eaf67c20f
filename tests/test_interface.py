"""The interface of the modules: names, where they are defined, arguments; and the examples of the document."""

import inspect
import unittest

from onestroke import rows
from onestroke.rows import Row, is_letters, letters, row_of

METHODS = {
    "part": ["self", "start", "many"], "common": ["self", "other"], "starts_with": ["self", "other"],
    "without": ["self", "beginning"], "listed": ["self", "start"],
}
FUNCTIONS = {"letters": ["row"], "is_letters": ["value"], "row_of": ["letters"]}


class Interface(unittest.TestCase):

    def test_methods_stand_in_the_class(self):
        for name, arguments in METHODS.items():
            method = Row.__dict__[name]
            self.assertEqual(list(inspect.signature(method).parameters), arguments, name)
        self.assertIsInstance(Row.__dict__["of"], classmethod)
        self.assertEqual(list(inspect.signature(Row.of).parameters), ["words"])
        for name in ("size", "words"):
            self.assertIsInstance(Row.__dict__[name], property, name)
        for name in ("__init__", "__getitem__", "__iter__", "__add__", "__mul__", "__rmul__", "__eq__"):
            self.assertIn(name, Row.__dict__)

    def test_all_is_defined_in_its_file(self):
        for name, arguments in FUNCTIONS.items():
            function = getattr(rows, name)
            self.assertEqual(function.__module__, "onestroke.rows")
            self.assertEqual(list(inspect.signature(function).parameters), arguments, name)
        self.assertEqual(Row.__module__, "onestroke.rows")

    def test_arguments_by_name(self):
        row = Row.of(words=["a", "b", "c"])
        self.assertEqual(row.part(start=1, many=2), Row("b", "c"))
        self.assertEqual(row.common(other=Row("a", "c")), 1)
        self.assertTrue(row.starts_with(other=Row("a")))
        self.assertEqual(row.without(beginning=Row("a")), Row("b", "c"))
        self.assertEqual(list(row.listed(start=2)), ["c"])
        self.assertEqual(letters(row=Row("a")), ["a"])
        self.assertTrue(is_letters(value=["a"]))
        self.assertEqual(row_of(letters=["a"]), Row("a"))

    def test_examples(self):
        self.assertEqual(
            letters(Row("x", "y") * 2 + Row("x")),
            ["x", "y", ((0, 1), (1, 1)), ((0, 1), (1, 1), (0, 1)), ((2, 1), (3, 1))])
        self.assertEqual(letters(10 ** 9 * Row("x")), ["x", ((0, 10 ** 9),)])
        self.assertEqual((10 ** 9 * Row("x", "y")).size, 2000000000)
        self.assertEqual((Row("x") * 5 + Row("y")).common(Row("x") * 7), 5)
        self.assertEqual(
            letters(Row("b", "a", "c", "a")), ["b", ((0, 1),), "a", "c", ((2, 1), (3, 1), (2, 1)), ((1, 1), (4, 1))])


if __name__ == "__main__":
    unittest.main()
