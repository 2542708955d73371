"""Tests of the interface's names and arguments; a test case inherits them."""

import inspect


class Defs:
    """The defs of a module: DEFS is a dict from names to names of arguments."""

    MODULE = None
    DEFS = {}

    def test_names_and_arguments(self):
        for name, arguments in self.DEFS.items():
            with self.subTest(name):
                one = getattr(self.MODULE, name)
                self.assertEqual(list(inspect.signature(one).parameters), arguments)
                self.assertEqual(one.__module__, self.MODULE.__name__)


class Methods:
    """The methods of a class, which are defined in it: METHODS is a dict from names to names of arguments."""

    MODULE = None
    CLASS = None
    METHODS = {}

    def test_names_arguments_and_where_they_are_defined(self):
        self.assertEqual(self.CLASS.__module__, self.MODULE.__name__)
        self.assertEqual(list(inspect.signature(self.CLASS).parameters), self.METHODS["__init__"][1:])
        for name, arguments in self.METHODS.items():
            with self.subTest(name):
                self.assertIn(name, vars(self.CLASS))
                self.assertEqual(list(inspect.signature(getattr(self.CLASS, name)).parameters), arguments)
