"""surepipes/errors.py: which classes there are, what they are made of, and what stands above them."""

import unittest

from surepipes import errors

FAMILIES = {"PipeError": ValueError, "MissingError": LookupError, "StateError": RuntimeError,
            "LimitError": ArithmeticError}

ERRORS = {
    "PipeError": {
        "InvalidInteger": ["value"], "InvalidAmount": ["value"], "InvalidPoints": ["position"],
        "InvalidPipes": ["name"], "NotConnected": ["node"], "InvalidDemands": ["node"], "Unbalanced": ["total"],
        "InvalidPoles": ["node"], "InvalidConductances": ["pipe"], "InvalidCurves": ["pipe"],
        "InvalidFlows": ["pipe"], "InvalidHeights": ["node"], "InvalidLevels": ["position"],
        "InvalidOrder": ["value"], "InvalidWord": ["value"], "InvalidReading": ["position"],
        "InvalidStates": ["position"], "InvalidKinds": ["pipe"], "InvalidPlace": ["value"], "InvalidText": ["line"],
        "InvalidClaim": ["value"], "InvalidLine": ["value"]},
    "MissingError": {
        "UnknownPipe": ["value"], "UnknownNode": ["value"], "UnknownPole": ["value"], "UnknownKind": ["value"],
        "UnknownReading": ["value"]},
    "StateError": {"Barred": [], "IsBridge": ["pipe"], "NotSure": ["value"], "NothingToUndo": []},
    "LimitError": {"TooMany": ["what", "limit"]},
}

ROWS = [(family, name, names) for family, members in ERRORS.items() for name, names in members.items()]


class Families(unittest.TestCase):
    def test_each_family_stands_directly_below_the_error_of_python(self):
        for name, above in FAMILIES.items():
            with self.subTest(name):
                self.assertEqual(getattr(errors, name).__bases__, (above,))

    def test_each_error_stands_directly_below_its_family(self):
        for family, name, _ in ROWS:
            with self.subTest(name):
                self.assertEqual(getattr(errors, name).__bases__, (getattr(errors, family),))

    def test_each_error_is_defined_in_this_file_and_there_are_no_others(self):
        found = {name for name, what in vars(errors).items() if isinstance(what, type)}
        self.assertEqual(found, set(FAMILIES) | {name for _, name, _ in ROWS})
        for name in found:
            self.assertEqual(getattr(errors, name).__module__, "surepipes.errors")


class Attributes(unittest.TestCase):
    def values(self, names):
        return [["x", [True]], (3, None)][:len(names)]

    def test_made_by_position(self):
        for _, name, names in ROWS:
            with self.subTest(name):
                values = self.values(names)
                error = getattr(errors, name)(*values)
                self.assertEqual(vars(error), dict(zip(names, values)))
                for attribute, value in zip(names, values):
                    self.assertIs(getattr(error, attribute), value)

    def test_made_by_the_names_of_the_parameters(self):
        for _, name, names in ROWS:
            with self.subTest(name):
                values = self.values(names)
                for keywords in (list(zip(names, values)), list(zip(names, values))[::-1]):
                    error = getattr(errors, name)(**dict(keywords))
                    self.assertEqual(vars(error), dict(zip(names, values)))

    def test_made_with_no_more_and_no_less(self):
        for _, name, names in ROWS:
            with self.subTest(name):
                with self.assertRaises(TypeError):
                    getattr(errors, name)(*range(len(names) + 1))
                if names:
                    with self.assertRaises(TypeError):
                        getattr(errors, name)(*range(len(names) - 1))

    def test_two_errors_do_not_share_their_values(self):
        one, other = errors.TooMany("nodes", 8), errors.TooMany("pipes", 16)
        self.assertEqual([one.what, one.limit, other.what, other.limit], ["nodes", 8, "pipes", 16])

    def test_raised_and_caught_by_the_family_and_by_the_error_of_python(self):
        for family, name, names in ROWS:
            for caught in (name, family):
                with self.subTest(name, caught=caught), self.assertRaises(getattr(errors, caught)):
                    raise getattr(errors, name)(*self.values(names))
            with self.subTest(name), self.assertRaises(FAMILIES[family]):
                raise getattr(errors, name)(*self.values(names))


if __name__ == "__main__":
    unittest.main()
