"""The names, arguments and kinds that the document lists, and the conventions about them."""

import importlib
import inspect
import unittest

from checks import FIELDS, Case, any_values
from emptypulls.compare import Cheap, Dearer
from emptypulls.depots import Depot
from emptypulls.desk import Desk
from emptypulls.games import Least, Pressing, Priced, Pulling
from emptypulls.known import Known, Rings
from emptypulls.lookers import Looker
from emptypulls.orders import Rising
from emptypulls.rates import Rate
from emptypulls.rules import Always, Both, By, Either, Fullest, Guarded, Levels, Moment, Never, Not, Rule, Worst
from emptypulls.seen import Fits
from emptypulls.stands import Stand
from emptypulls.tours import Tour
from emptypulls.trips import Trip

OPERATORS = {"+": "__add__", "-": "__sub__", "*": "__mul__", "|": "__or__", ">>": "__rshift__", "neg": "__neg__",
             "~": "__invert__", "==": "__eq__", "<": "__lt__", "<=": "__le__", ">": "__gt__", ">=": "__ge__",
             "bool": "__bool__", "str": "__str__", "len": "__len__", "iter": "__iter__", "in": "__contains__",
             "[]": "__getitem__", "[] =": "__setitem__", "+=": "__iadd__", "&": "__and__", "call": "__call__",
             "+ r": "__radd__", "- r": "__rsub__", "* r": "__rmul__"}


def paper(*names):
    """What is listed for a paper."""
    return {"made": list(names), "properties": [], "attributes": list(names), "methods": {}, "classes": {},
            "statics": {}, "operators": ["=="]}


def rule(*names):
    """What is listed for a rule that is made of these arguments."""
    return {"made": list(names), "properties": [], "attributes": [], "methods": {"__call__": ["moment"]},
            "classes": {}, "statics": {}, "operators": ["call", "=="]}


LISTED = {
    ("rates", "Rate"): {
        "made": ["top", "bottom"], "properties": ["top", "bottom"], "attributes": [],
        "methods": {"over": ["other"]}, "classes": {"read": ["text"]},
        "statics": {"of": ["value"], "total": ["some"]},
        "operators": ["+", "-", "*", "+ r", "- r", "* r", "neg", "==", "<", "<=", ">", ">=", "bool", "str"]},
    ("trips", "Trip"): {
        "made": ["start", "goal", "price"], "properties": [], "attributes": ["start", "goal", "price"],
        "methods": {"priced": ["price"], "touches": ["yard"]}, "classes": {"read": ["text"]}, "statics": {},
        "operators": ["~", "==", "str"]},
    ("tours", "Tour"): {
        "made": ["trips"], "properties": ["whole_price"], "attributes": ["trips", "yards"],
        "methods": {"renamed": ["names"], "priced": ["prices"]}, "classes": {"read": ["text"]},
        "statics": {"there_and_back": ["one", "other", "price", "back"], "around": ["yards"]},
        "operators": ["+", "|", "*", "* r", "~", ">>", "==", "str", "len", "iter", "in", "[]"]},
    ("stands", "Stand"): {
        "made": ["numbers"], "properties": ["whole"], "attributes": [],
        "methods": {"moved": ["start", "goal"]}, "classes": {"read": ["text"]}, "statics": {},
        "operators": ["+", "-", "<=", "==", "str", "bool", "len", "iter", "in", "[]"]},
    ("depots", "Depot"): {
        "made": ["tour", "stand", "index", "paid"],
        "properties": ["stand_now", "next_index", "laps", "paid", "driven", "deeds", "tour_now"], "attributes": [],
        "methods": {"drive": ["word"], "run": ["words"], "put": ["yard", "many"], "drop": ["yard"],
                    "set_tour": ["tour"], "spares_now": [], "fair_words": [], "undo": [], "trial": [],
                    "tried": ["work"], "twin": []},
        "classes": {}, "statics": {}, "operators": ["+=", "==", "in", "[]", "[] ="]},
    ("orders", "Rising"): {
        "made": ["number", "order", "marks"], "properties": [], "attributes": ["number", "order", "marks"],
        "methods": {}, "classes": {}, "statics": {}, "operators": ["=="]},
    ("known", "Known"): {
        "made": ["rate", "start", "words", "heights"], "properties": [],
        "attributes": ["rate", "start", "words", "heights"],
        "methods": {}, "classes": {}, "statics": {}, "operators": ["=="]},
    ("known", "Rings"): {
        "made": ["rate", "left", "heights"], "properties": [], "attributes": ["rate", "left", "heights"],
        "methods": {}, "classes": {}, "statics": {}, "operators": ["=="]},
    ("games", "Pulling"): paper("rate", "heights"),
    ("games", "Pressing"): paper("rate", "heights"),
    ("games", "Priced"): paper("rate", "pulling", "pressing"),
    ("games", "Least"): paper("rate", "start", "pulling", "pressing"),
    ("rules", "Moment"): paper("tour", "index", "begun", "now"),
    ("rules", "Worst"): paper("rate", "row", "ring", "heights"),
    ("rules", "Rule"): {**rule(), "operators": ["call", "==", "&", "|", "~"]},
    ("rules", "Always"): rule(),
    ("rules", "Never"): rule(),
    ("rules", "Fullest"): rule(),
    ("rules", "Levels"): rule("levels"),
    ("rules", "By"): rule("work"),
    ("rules", "Guarded"): rule("rule"),
    ("rules", "Both"): rule("one", "other"),
    ("rules", "Either"): rule("one", "other"),
    ("rules", "Not"): rule("one"),
    ("compare", "Cheap"): {**paper("marks"), "operators": ["==", "bool"]},
    ("compare", "Dearer"): {**paper("loads"), "operators": ["==", "bool"]},
    ("seen", "Fits"): paper("least", "known"),
    ("lookers", "Looker"): {
        "made": ["tour"], "properties": [], "attributes": [],
        "methods": {"strandings": ["paper", "stand"], "risings": ["paper"], "knowns": ["paper", "loads", "number"],
                    "endless": ["paper", "loads"], "prices": ["paper", "stand"], "leasts": ["paper", "number"],
                    "worsts": ["paper", "rule", "stand"], "cheaps": ["paper", "one", "other", "stand"]},
        "classes": {}, "statics": {}, "operators": []},
    ("desk", "Desk"): {
        "made": [], "properties": [], "attributes": [],
        "methods": {"ask": ["line"], "__call__": ["line"], "run": ["lines"], "depot_now": []},
        "classes": {}, "statics": {}, "operators": ["call"]},
}
FUNCTIONS = {
    "stands": {"need": ["tour"], "is_safe": ["tour", "stand"], "spares": ["tour", "stand"],
               "stranding": ["tour", "stand"], "placings": ["tour", "number"], "place_of": ["tour", "stand"]},
    "orders": {"rising": ["tour", "order"], "down": ["tour", "order"], "loads_of": ["tour", "order"],
               "greatest_rising": ["tour"], "best_orders": ["tour"], "common_order": ["one", "other"]},
    "known": {"known_price": ["tour", "loads", "number"], "endless_price": ["tour", "loads"]},
    "games": {"price_from": ["tour", "stand"], "least_price": ["tour", "number"], "enough": ["tour", "most"]},
    "rules": {"driven_by": ["tour", "rule", "stand", "loads"], "stranded": ["tour", "rule", "stand"],
              "worst": ["tour", "rule", "stand"]},
    "compare": {"never_dearer": ["tour", "one", "other", "stand"]},
    "seen": {"first_stands": ["tour", "log", "whole"], "unexplained": ["tour", "log"]},
    "texts": {"depot_text": ["depot"]},
    "reader": {"read_depot": ["text"]},
}
GENERATORS = ["placings", "best_orders"]
BOTH = Tour.there_and_back("a", "b")
MADE = {"Rate": Rate(1, 2), "Trip": Trip("a", "b"), "Tour": BOTH, "Stand": Stand({"a": 1}),
        "Depot": Depot(BOTH, Stand({"a": 1})), "Rising": Rising(1, 2, 3), "Known": Known(1, 2, 3, 4),
        "Rings": Rings(1, 2, 3), "Pulling": Pulling(1, 2), "Pressing": Pressing(1, 2), "Priced": Priced(1, 2, 3),
        "Least": Least(1, 2, 3, 4), "Moment": Moment(1, 2, 3, 4), "Worst": Worst(1, 2, 3, 4), "Rule": Rule(),
        "Always": Always(), "Never": Never(), "Fullest": Fullest(), "Levels": Levels({"a": 1}),
        "By": By(lambda moment: True), "Guarded": Guarded(Always()), "Both": Both(Always(), Never()),
        "Either": Either(Always(), Never()), "Not": Not(Always()), "Cheap": Cheap(1), "Dearer": Dearer(1),
        "Fits": Fits(1, 2), "Looker": Looker(BOTH), "Desk": Desk()}


def listed():
    for (file, name), told in LISTED.items():
        yield file, getattr(importlib.import_module(f"emptypulls.{file}"), name), told


class InterfaceTest(Case):
    def test_each_class_is_defined_in_its_file(self):
        for file, made, _ in listed():
            self.assertEqual(made.__module__, f"emptypulls.{file}")
        self.assertEqual(len(FIELDS), 22)

    def test_each_function_is_defined_in_its_file(self):
        for file, functions in FUNCTIONS.items():
            for name, parameters in functions.items():
                found = getattr(importlib.import_module(f"emptypulls.{file}"), name)
                self.assertTrue(inspect.isfunction(found), name)
                self.assertEqual(found.__module__, f"emptypulls.{file}")
                self.assertEqual(list(inspect.signature(found).parameters), parameters, name)
                self.assertEqual(inspect.isgeneratorfunction(found), name in GENERATORS, name)

    def test_each_member_is_defined_in_its_class_as_the_kind_that_is_told(self):
        for _, made, told in listed():
            own = vars(made)
            kinds = [(told["properties"], property), (told["classes"], classmethod),
                     (told["statics"], staticmethod)]
            for names, kind in kinds:
                for name in names:
                    self.assertIsInstance(own[name], kind, name)
            for name in [*told["methods"], *(OPERATORS[sign] for sign in told["operators"])]:
                self.assertTrue(inspect.isfunction(own[name]), name)

    def test_the_names_of_the_parameters(self):
        for _, made, told in listed():
            self.assertEqual(list(inspect.signature(made).parameters), told["made"])
            for name, parameters in {**told["classes"], **told["methods"], **told["statics"]}.items():
                found = list(inspect.signature(getattr(MADE[made.__name__], name)).parameters)
                # The plain parameter that LANGUAGE.md wants ahead of a star is not listed.
                found = [parameter for parameter in found if name != "around" or parameter != "first"]
                self.assertEqual(found, parameters, name)

    def test_each_attribute_is_set_when_the_object_is_created(self):
        for _, made, told in listed():
            self.assertLessEqual(set(told["attributes"]), set(vars(MADE[made.__name__])))

    def test_papers_keep_copies_of_what_they_are_made_of(self):
        papers = [made for _, made, told in listed() if told["made"] == told["attributes"] != [] and made is not Trip]
        self.assertEqual(len(papers), 12)
        for made in papers:
            names = list(inspect.signature(made).parameters)
            parts = [[name, {name: [1]}] for name in names]
            paper = made(*parts)
            whole = made(*[paper for _ in names])
            kept, again = made(*parts), made(*[paper for _ in names])
            for part in parts:
                part[1].clear()
            for name in names:
                self.assertEqual(getattr(paper, name), [name, {name: [1]}])
            self.assertEqual(paper, kept)
            for name in names:
                getattr(paper, name).clear()
            self.assertEqual(whole, again)
            self.assertNotEqual(paper, kept)

    def test_objects_stay_as_they_are(self):
        rate, trip, tour = Rate(1, 2), Trip("a", "b", 5), Tour.there_and_back("a", "b", 5)
        before = [str(rate), str(trip), str(tour), tour.yards]
        works = [lambda: rate + 1, lambda: -rate, lambda: rate * rate, lambda: 1 - rate, lambda: rate.over(2),
                 lambda: ~trip, lambda: trip.priced(1), lambda: tour + tour, lambda: tour | tour,
                 lambda: 2 * tour, lambda: ~tour, lambda: tour >> 1, lambda: tour.priced([1, 2]),
                 lambda: tour.renamed({"a": "c", "b": "d"}), lambda: list(tour)]
        for work in works:
            work()
            self.assertEqual([str(rate), str(trip), str(tour), tour.yards], before)
        refused = [lambda: rate.over(0), lambda: Rate(rate), lambda: trip.priced(-1), lambda: tour * 7,
                   lambda: tour * 0, lambda: tour.priced([1]), lambda: tour.renamed({}), lambda: tour >> None]
        for work in refused:
            with self.assertRaises(ValueError):
                work()
            self.assertEqual([str(rate), str(trip), str(tour), tour.yards], before)

    def test_no_function_changes_its_arguments(self):
        for functions in FUNCTIONS.values():
            for name, parameters in functions.items():
                for told in ([tour, stand, order, loads, number, other, held]
                             for tour in (BOTH, None) for stand in (Stand({"a": 1}), Stand({}), Stand({"z": 1}))
                             for order in (["b", "a"], ["b"]) for loads in ([True, False], [True, 1])
                             for number in (1, 7) for other in (~BOTH, Tour.around("a", "b", "c"))
                             for held in (Always(), Levels({"b": 1}))):
                    self.look_at(name, parameters, *told)

    def look_at(self, name, parameters, *told):
        kept = dict(zip(("tour", "stand", "order", "loads", "number", "other", "rule"), told), one=told[0])
        kept.update(text=str(kept["other"]), depot=Depot(BOTH, Stand({"a": 1})) if told[0] is None else None)
        kept.update(most=kept["number"], whole=kept["number"], log=["load", "none"] if told[4] == 1 else ["load", 1])
        if name == "never_dearer":
            kept.update(one=kept["rule"], other=Guarded(kept["rule"]))
        before = {key: str(value) for key, value in kept.items()}
        function = next(getattr(importlib.import_module(f"emptypulls.{file}"), name)
                        for file, functions in FUNCTIONS.items() if name in functions)
        answers = []
        for _ in range(2):
            try:
                answer = function(**{parameter: kept[parameter] for parameter in parameters})
                answers.append(list(answer) if name in GENERATORS else answer)
            except ValueError as error:
                answers.append([type(error), vars(error)])
        self.assertEqual(answers[0], answers[1])
        self.assertEqual({key: str(value) for key, value in kept.items()}, before)

    def test_an_object_equals_what_is_told_of_its_class_and_nothing_else(self):
        for made in MADE.values():
            for value in any_values():
                if type(value) is not type(made) and not (isinstance(made, Rate) and type(value) is int):
                    self.assertIs(made == value, False)
                    self.assertIs(value == made, False)
                    self.assertIs(made != value, True)


if __name__ == "__main__":
    unittest.main()
