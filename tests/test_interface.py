"""The names, arguments and kinds that the document lists, and the conventions about them."""

import importlib
import inspect
import unittest

from checks import FIELDS, Case
from emptypulls.rates import Rate
from emptypulls.tours import Tour
from emptypulls.trips import Trip

OPERATORS = {"+": "__add__", "-": "__sub__", "*": "__mul__", "|": "__or__", ">>": "__rshift__", "neg": "__neg__",
             "~": "__invert__", "==": "__eq__", "<": "__lt__", "<=": "__le__", ">": "__gt__", ">=": "__ge__",
             "bool": "__bool__", "str": "__str__", "len": "__len__", "iter": "__iter__", "in": "__contains__",
             "[]": "__getitem__", "+ r": "__radd__", "- r": "__rsub__", "* r": "__rmul__"}
LISTED = {
    ("rates", "Rate"): {
        "made": ["top", "bottom"], "properties": ["top", "bottom"], "attributes": [],
        "methods": {"over": ["other"]}, "classes": {"read": ["text"]},
        "statics": {"of": ["value"], "total": ["some"]},
        "operators": ["+", "-", "*", "+ r", "- r", "* r", "neg", "==", "<", "<=", ">", ">=", "bool", "str"]},
    ("trips", "Trip"): {
        "made": ["start", "goal", "price"], "properties": [], "attributes": ["start", "goal", "price"],
        "methods": {"priced": ["price"], "touches": ["yard"]}, "classes": {"read": ["text"]}, "statics": {},
        "operators": ["~", "==", "str"]},
    ("tours", "Tour"): {
        "made": ["trips"], "properties": ["whole_price"], "attributes": ["trips", "yards"],
        "methods": {"renamed": ["names"], "priced": ["prices"]}, "classes": {"read": ["text"]},
        "statics": {"there_and_back": ["one", "other", "price", "back"], "around": ["yards"]},
        "operators": ["+", "|", "*", "* r", "~", ">>", "==", "str", "len", "iter", "in", "[]"]},
}
MADE = {"Rate": Rate(1, 2), "Trip": Trip("a", "b"), "Tour": Tour.there_and_back("a", "b")}


def listed():
    for (file, name), told in LISTED.items():
        yield file, getattr(importlib.import_module(f"emptypulls.{file}"), name), told


class InterfaceTest(Case):
    def test_each_class_is_defined_in_its_file(self):
        for file, made, _ in listed():
            self.assertEqual(made.__module__, f"emptypulls.{file}")
        self.assertEqual(len(FIELDS), 22)

    def test_each_member_is_defined_in_its_class_as_the_kind_that_is_told(self):
        for _, made, told in listed():
            own = vars(made)
            kinds = [(told["properties"], property), (told["classes"], classmethod),
                     (told["statics"], staticmethod)]
            for names, kind in kinds:
                for name in names:
                    self.assertIsInstance(own[name], kind, name)
            for name in [*told["methods"], *(OPERATORS[sign] for sign in told["operators"])]:
                self.assertTrue(inspect.isfunction(own[name]), name)

    def test_the_names_of_the_parameters(self):
        for _, made, told in listed():
            self.assertEqual(list(inspect.signature(made).parameters), told["made"])
            for name, parameters in {**told["classes"], **told["methods"], **told["statics"]}.items():
                found = list(inspect.signature(getattr(MADE[made.__name__], name)).parameters)
                # The plain parameter that LANGUAGE.md wants ahead of a star is not listed.
                found = [parameter for parameter in found if name != "around" or parameter != "first"]
                self.assertEqual(found, parameters, name)

    def test_each_attribute_is_set_when_the_object_is_created(self):
        for _, made, told in listed():
            self.assertLessEqual(set(told["attributes"]), set(vars(MADE[made.__name__])))

    def test_objects_stay_as_they_are(self):
        rate, trip, tour = Rate(1, 2), Trip("a", "b", 5), Tour.there_and_back("a", "b", 5)
        before = [str(rate), str(trip), str(tour), tour.yards]
        works = [lambda: rate + 1, lambda: -rate, lambda: rate * rate, lambda: 1 - rate, lambda: rate.over(2),
                 lambda: ~trip, lambda: trip.priced(1), lambda: tour + tour, lambda: tour | tour,
                 lambda: 2 * tour, lambda: ~tour, lambda: tour >> 1, lambda: tour.priced([1, 2]),
                 lambda: tour.renamed({"a": "c", "b": "d"}), lambda: list(tour)]
        for work in works:
            work()
            self.assertEqual([str(rate), str(trip), str(tour), tour.yards], before)
        refused = [lambda: rate.over(0), lambda: Rate(rate), lambda: trip.priced(-1), lambda: tour * 7,
                   lambda: tour * 0, lambda: tour.priced([1]), lambda: tour.renamed({}), lambda: tour >> None]
        for work in refused:
            with self.assertRaises(ValueError):
                work()
            self.assertEqual([str(rate), str(trip), str(tour), tour.yards], before)


if __name__ == "__main__":
    unittest.main()
