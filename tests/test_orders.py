import random
import unittest
from itertools import combinations, permutations

from checks import Case, any_values
from emptypulls.orders import (Rising, best_orders, common_order, down, greatest_rising, loads_of, rising)
from emptypulls.tours import Tour
from emptypulls.trips import Trip
from reference import best_of, rising_of, some_tours

BOTH = Tour.there_and_back("a", "b", 5)
RING = Tour.around("a", "b", "c")
SIX = Tour.around(*"abcdef") + Tour.around(*"fdbeca").priced([9, 2, 0, 7, 1, 99])


def is_right(tour, paper):
    """Whether a paper is a Rising that is right for the tour."""
    yards = tour.yards
    lots = [lot for many in range(len(yards) + 1) for lot in combinations(yards, many)]
    if type(paper) is not Rising or type(paper.number) is not int or type(paper.order) is not tuple:
        return False
    if sorted(paper.order) != list(yards) or rising_of(tour, paper.order) != paper.number:
        return False
    if type(paper.marks) is not dict or set(paper.marks) != set(lots) or paper.marks[()] != 0:
        return False
    if not all(type(mark) is int for mark in paper.marks.values()) or paper.marks[yards] != paper.number:
        return False
    for lot in lots:
        for yard in set(yards) - set(lot):
            more = tuple(sorted([*lot, yard]))
            if paper.marks[more] < paper.marks[lot] + sum(
                    trip.price for trip in tour if trip.start in lot and trip.goal == yard):
                return False
    return True


class RisingTest(Case):
    def test_all_orders_as_lists_and_as_tuples(self):
        for tour in [BOTH, RING, *some_tours(21, 30, "dcba", 3)]:
            for order in permutations(tour.yards):
                falling = [at for at, trip in enumerate(tour)
                           if order.index(trip.start) > order.index(trip.goal)]
                for told in (order, list(order)):
                    self.assert_same(rising(tour, told), rising_of(tour, order))
                    self.assert_same(down(tour, told), tuple(falling))
                    self.assert_same(loads_of(tour, told), tuple(at in falling for at in range(len(tour))))
                    self.assertEqual(tuple(told), order)
        self.assert_same(rising(order=("b", "a"), tour=BOTH), 1)
        self.assert_same(down(order=("b", "a"), tour=BOTH), (0,))
        self.assert_same(loads_of(order=("b", "a"), tour=BOTH), (True, False))

    def test_errors(self):
        wrong = [(), [], ("a",), ("a", "b"), ["a", "b"], ("a", "b", "b"), ("a", "a", "b", "c"), ("a", "b", "c", "d"),
                 ("a", "b", "d"), "abc", {"a": 1, "b": 1, "c": 1}, ("a", "b", None), ("a", "b", ["c"]), ("a", ("b", "c")),
                 ["a", "b", Trip("a", "c")], ["a", "b", "C"], ("a", "b", "c", "c"), (["a"], ["b"], ["c"])]
        for work in (rising, down, loads_of):
            for value in any_values():
                self.assert_raises("BadOrder", ["order"], work, RING, value)
                if not isinstance(value, Tour):
                    self.assert_raises("BadTour", ["tour"], work, value, ("a", "b"))
                    self.assert_raises("BadTour", ["tour"], work, value, value)
            for value in wrong:
                self.assert_raises("BadOrder", ["order"], work, RING, value)


class GreatestTest(Case):
    def test_all_orders_of_small_tours(self):
        for tour in [BOTH, RING, RING + ~RING, *some_tours(22, 60, "dcba", 3)]:
            most, orders = best_of(tour)
            paper = greatest_rising(tour)
            self.assert_same((paper.number, paper.order), (most, orders[0]))
            self.assertTrue(is_right(tour, paper))
            self.assertEqual(list(best_orders(tour)), orders)

    def test_six_yards(self):
        for tour in [SIX, *some_tours(23, 3, "fedcba", 4)]:
            most, orders = best_of(tour)
            paper = greatest_rising(tour=tour)
            self.assert_same((paper.number, paper.order), (most, orders[0]))
            self.assertTrue(is_right(tour, paper))
            self.assertEqual(list(best_orders(tour=tour)), orders)

    def test_prices_0(self):
        free = SIX.priced([0] * 12)
        paper = greatest_rising(free)
        self.assert_same((paper.number, paper.order), (0, tuple("abcdef")))
        self.assertTrue(is_right(free, paper))
        self.assertEqual(list(best_orders(free)), list(permutations("abcdef")))

    def test_only_the_first_items(self):
        row = best_orders(SIX.priced([0] * 12))
        self.assertIs(iter(row), row)
        self.assert_same([next(row), next(row)], [tuple("abcdef"), tuple("abcdfe")])

    def test_errors(self):
        for value in any_values():
            if not isinstance(value, Tour):
                self.assert_raises("BadTour", ["tour"], greatest_rising, value)
                self.assert_raises("BadTour", ["tour"], lambda: next(best_orders(value)))

    def test_a_paper_belongs_to_the_caller(self):
        paper = greatest_rising(RING)
        paper.marks.clear()
        paper.marks["x"] = 1
        again = greatest_rising(RING)
        self.assertTrue(is_right(RING, again))
        self.assertNotEqual(paper, again)
        self.assertEqual(again, greatest_rising(Tour.around("a", "b", "c")))


class CommonTest(Case):
    def test_all_orders_of_small_tours(self):
        chance = random.Random(24)
        tours = [BOTH, RING, ~RING, RING + ~RING, *some_tours(25, 60, "abcd", 3)]
        found = []
        for _ in range(400):
            one, other = chance.choice(tours), chance.choice(tours)
            if one.yards != other.yards:
                self.assert_raises("BadTour", ["yards"], common_order, one, other)
                continue
            both = [order for order in best_of(one)[1] if order in best_of(other)[1]]
            self.assert_same(common_order(one, other), both[0] if both else None)
            if len(one) + len(other) <= 12:
                whole = greatest_rising(one).number + greatest_rising(other).number
                self.assertEqual(bool(both), greatest_rising(one + other).number == whole)
            found.append(bool(both))
        self.assertEqual(set(found), {True, False})

    def test_twelve_trips_each(self):
        self.assert_same(common_order(other=SIX, one=SIX), best_of(SIX)[1][0])
        self.assert_same(common_order(SIX, SIX.priced([0] * 12)), best_of(SIX)[1][0])

    def test_errors(self):
        for value in any_values():
            if not isinstance(value, Tour):
                self.assert_raises("BadTour", ["one"], common_order, value, BOTH)
                self.assert_raises("BadTour", ["one"], common_order, value, value)
                self.assert_raises("BadTour", ["other"], common_order, BOTH, value)
        self.assert_raises("BadTour", ["yards"], common_order, BOTH, RING)
        self.assert_raises("BadTour", ["yards"], common_order, BOTH, Tour.there_and_back("a", "c"))


class PaperTest(Case):
    def test_any_values(self):
        for value in any_values():
            paper = Rising(value, [value], (value,))
            self.assert_same((paper.number, paper.order, paper.marks), (value, [value], (value,)))
            self.assertEqual(set(vars(paper)), {"number", "order", "marks"})
            self.assertEqual(paper, Rising(marks=(value,), order=[value], number=value))

    def test_equality(self):
        paper = Rising(1, ("a", "b"), {(): 0, ("a",): 1})
        self.assertIs(paper == Rising(1, ("a", "b"), {("a",): 1, (): 0}), True)
        self.assertIs(paper != Rising(1, ("a", "b"), {("a",): 1, (): 0}), False)
        for other in (Rising(2, ("a", "b"), {(): 0, ("a",): 1}), Rising(True, ("a", "b"), {(): 0, ("a",): 1}),
                      Rising(1, ["a", "b"], {(): 0, ("a",): 1}), Rising(1, ("a", "b"), {(): False, ("a",): 1}),
                      Rising(1, ("a", "b"), {(): 0}), Rising(1, ("a", "b"), None)):
            self.assertIs(paper == other, False)
            self.assertIs(paper != other, True)
        for value in [*any_values(), (1, ("a", "b"), {(): 0, ("a",): 1})]:
            self.assertIs(paper == value, False)
            self.assertIs(value == paper, False)

    def test_an_argument_that_is_changed_later(self):
        order, marks = ["a"], {(): [0]}
        inner = Rising(1, order, marks)
        paper = Rising(order, marks, inner)
        order.append("b")
        marks[()].append(1)
        inner.marks["x"] = 1
        self.assertEqual(inner, Rising(1, ["a"], {(): [0], "x": 1}))
        self.assertEqual(paper, Rising(["a"], {(): [0]}, Rising(1, ["a"], {(): [0]})))


if __name__ == "__main__":
    unittest.main()
