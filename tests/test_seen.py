import random
import unittest
from itertools import product

from checks import Case, any_values, same
from emptypulls.seen import Fits, first_stands, unexplained
from emptypulls.tours import Tour
from reference import all_places, indexes, moved, some_tours

BOTH = Tour.there_and_back("a", "b", 5)
RING = Tour.around("a", "b", "c")
STAR = Tour.there_and_back("a", "b") + Tour.there_and_back("a", "c")
ENTRIES = ("load", "missed", "pull", "none")
BIG = 10 ** 60 - 1


def explains(tour, numbers, log):
    """Whether numbers of trailers at the beginning explain a log, driven one by one."""
    for at, entry in enumerate(log):
        way = indexes(tour)[at % len(tour)]
        behind = moved(way, numbers)
        if entry == "missed" and behind is not None or entry in ("load", "pull") and behind is None:
            return False
        if entry in ("load", "pull"):
            numbers = behind
    return True


def fits_of(tour, log, whole, most):
    """What the stands of the whole number, or else of at most so many trailers at a yard, tell."""
    many = len(tour.yards)
    some = all_places(many, whole) if whole is not None else product(range(most + 1), repeat=many)
    found = [numbers for numbers in some if explains(tour, numbers, log)]
    if not found:
        return None
    columns = dict(zip(tour.yards, zip(*found)))
    least = {yard: min(column) for yard, column in columns.items()}
    return Fits(least, tuple(yard for yard, column in columns.items() if len(set(column)) == 1))


def random_log(chance, tour, most):
    """A log, mostly one that a stand explains."""
    numbers, log = tuple(chance.randint(0, 2) for _ in tour.yards), []
    for at in range(chance.randint(0, most)):
        behind = moved(indexes(tour)[at % len(tour)], numbers)
        entry = chance.choice(["missed", "none"] if behind is None else ["load", "pull", "none"])
        if chance.random() < 0.04:
            entry = chance.choice(ENTRIES)
        numbers = behind if entry in ("load", "pull") and behind is not None else numbers
        log.append(entry)
    return log


class FirstStandsTest(Case):
    def test_all_short_logs(self):
        for tour in (BOTH, BOTH >> 1):
            for many in range(5):
                for log in product(ENTRIES, repeat=many):
                    self.look(tour, log)

    def test_longer_logs(self):
        chance = random.Random(71)
        for tour in [RING, STAR, *some_tours(72, 40)]:
            for _ in range(4):
                self.look(tour, random_log(chance, tour, 12))

    def look(self, tour, log):
        self.assertEqual(first_stands(tour, log), fits_of(tour, log, None, len(log) + 1), f"{tour} {log}")
        self.assertEqual(first_stands(tour=tour, log=list(log), whole=None), first_stands(tour, tuple(log)))
        for whole in range(5):
            self.assertEqual(first_stands(tour, log, whole), fits_of(tour, log, whole, None), f"{tour} {log} {whole}")

    def test_the_keys_are_all_yards_and_known_is_ascending(self):
        fits = first_stands(RING, ["missed", "none", "missed"])
        self.assert_same((fits.least, fits.known), ({"a": 0, "b": 0, "c": 0}, ("a", "c")))
        self.assert_same(first_stands(RING, []).least, {"a": 0, "b": 0, "c": 0})
        self.assert_same(first_stands(RING, [], 0).known, ("a", "b", "c"))
        self.assert_same(first_stands(RING, []).known, ())

    def test_yards_that_are_told_in_no_entry(self):
        self.assertEqual(first_stands(STAR, ["load", "none"]), Fits({"a": 1, "b": 0, "c": 0}, ()))
        self.assertEqual(first_stands(STAR, ["load", "none"], 1), Fits({"a": 1, "b": 0, "c": 0}, ("a", "b", "c")))
        self.assertEqual(first_stands(STAR, ["missed", "missed"], 3), Fits({"a": 0, "b": 0, "c": 3}, ("a", "b", "c")))

    def test_large_wholes(self):
        self.assertEqual(first_stands(BOTH, ["missed"], BIG), Fits({"a": 0, "b": BIG}, ("a", "b")))
        self.assertEqual(first_stands(BOTH, ["load"], BIG), Fits({"a": 1, "b": 0}, ()))
        self.assertIsNone(first_stands(BOTH, ["missed", "missed"], BIG))
        self.assertIsNone(first_stands(BOTH, ["load"], 0))

    def test_long_logs(self):
        self.assertEqual(first_stands(BOTH, ["load", "none"] * 120), Fits({"a": 120, "b": 0}, ()))
        self.assertEqual(first_stands(BOTH, ("load", "pull") * 120, 1), Fits({"a": 1, "b": 0}, ("a", "b")))
        self.assert_same(unexplained(BOTH, ["load", "pull"] * 119 + ["load", "missed"]), 239)
        for work in (first_stands, unexplained):
            for log in (["none"] * 241, ("none",) * 241, [None] * 241):
                self.assert_raises("BadLog", [None], work, BOTH, log)

    def test_wrong_values_in_their_order(self):
        for value in any_values():
            for work in (first_stands, unexplained):
                if not isinstance(value, Tour):
                    self.assert_raises("BadTour", ["tour"], work, value, None)
                if not isinstance(value, (list, tuple)):
                    self.assert_raises("BadLog", [None], work, BOTH, value)
                self.assert_raises("BadLog", [0], work, BOTH, [value, value])
                self.assert_raises("BadLog", [3], work, BOTH, ("missed", "load", "missed", value))
            self.assert_raises("BadLog", [0], first_stands, BOTH, [value], -1)
            if value is not None and (type(value) is not int or value < 0):
                self.assert_raises("BadCount", [value], first_stands, BOTH, ["missed", "missed"], value)
        for word in ("Load", "leave", " load", "load ", "NONE", None):
            self.assert_raises("BadLog", [0], first_stands, BOTH, [word])

    def test_arguments_stay_as_they_are(self):
        log = ["load", "none"]
        first = first_stands(BOTH, log)
        self.assertEqual(log, ["load", "none"])
        first.least.clear()
        self.assertEqual(first_stands(BOTH, log), Fits({"a": 1, "b": 0}, ()))


class UnexplainedTest(Case):
    def first_wrong(self, tour, log):
        for many in range(1, len(log) + 1):
            if not any(explains(tour, numbers, log[:many])
                       for numbers in product(range(many + 1), repeat=len(tour.yards))):
                return many - 1
        return None

    def test_against_each_beginning(self):
        chance = random.Random(73)
        for many in range(5):
            for log in product(ENTRIES, repeat=many):
                self.assert_same(unexplained(BOTH, log), self.first_wrong(BOTH, log))
        for tour in [RING, STAR, *some_tours(74, 25)]:
            log = random_log(chance, tour, 9)
            self.assert_same(unexplained(tour, log), self.first_wrong(tour, log))
            self.assertIs(first_stands(tour, log) is None, unexplained(log=log, tour=tour) is not None)

    def test_none(self):
        self.assertIsNone(unexplained(RING, []))
        self.assertIsNone(unexplained(RING, ["none"] * 240))


class PaperTest(Case):
    def test_papers_of_any_values(self):
        for value in any_values():
            paper = Fits(value, (value,))
            self.assertTrue(same(paper.least, value) and same(paper.known, (value,)))
            self.assertEqual(paper, Fits(least=value, known=(value,)))
            self.assertIs(paper == Fits(value, [value]), False)
            self.assertIs(paper == Fits([value], (value,)), False)

    def test_what_is_changed_later(self):
        least = {"a": 1}
        paper = Fits(least, [least])
        least["a"] = 2
        self.assertEqual(paper, Fits({"a": 1}, [{"a": 1}]))


if __name__ == "__main__":
    unittest.main()
