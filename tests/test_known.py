import random
import unittest
from fractions import Fraction
from itertools import combinations, product

from checks import Case, any_values, same
from emptypulls.known import Known, Rings, endless_price, known_price
from emptypulls.rates import Rate
from emptypulls.tours import Tour
from emptypulls.trips import Trip
from papers import is_level, is_right_known, is_right_rings, known_steps
from reference import all_places, some_tours

BOTH = Tour.there_and_back("a", "b", 5)
RING = Tour.around("a", "b", "c")
SIX = Tour.around(*"abcdef").priced([3, 1, 4, 1, 5, 9])
TWELVE = SIX + Tour.around(*"fdbeca").priced([9, 2, 0, 7, 1, 99])
F, T = False, True


def cheapest(tour, loads, number):
    """The price by a walk of many rounds: its mean, and by how much it can differ from the price."""
    places = all_places(len(tour.yards), number)
    sums = {place: 0 for place in places}
    rounds = 60
    for _ in range(rounds):
        for index in range(len(loads)):
            found = {}
            for place, whole in sums.items():
                for cost, behind in known_steps(tour, loads, index, place).values():
                    found[behind] = min(found.get(behind, 10 ** 9), whole + cost)
            sums = found
    tours = len(loads) // len(tour)
    slack = Fraction(len(places) * len(loads) * 99, rounds * tours)
    return Fraction(min(sums.values()), rounds * tours), slack


def random_loads(chance, tour, most):
    many = chance.randint(1, most // len(tour)) * len(tour)
    return [chance.random() < 0.4 for _ in range(many)]


class KnownTest(Case):
    def test_small_rows(self):
        chance = random.Random(31)
        for tour in [BOTH, RING, BOTH | BOTH, *some_tours(32, 50)]:
            for number in range(4):
                loads = random_loads(chance, tour, 12)
                paper = known_price(tour, loads, number)
                self.assertTrue(is_right_known(tour, loads, number, paper), f"{tour} {loads} {number}")
                self.assertEqual(paper, known_price(tour=tour, loads=tuple(loads), number=number))
                mean, slack = cheapest(tour, loads, number)
                self.assertLessEqual(abs(Fraction(paper.rate.top, paper.rate.bottom) - mean), slack)

    def test_one_more_spare_never_costs_more(self):
        chance = random.Random(33)
        for tour in some_tours(34, 30):
            loads = random_loads(chance, tour, 12)
            rates = [known_price(tour, loads, number).rate for number in range(5)]
            self.assertTrue(all(one >= other for one, other in zip(rates, rates[1:])))
            pulls = sum(tour[at % len(tour)].price for at, load in enumerate(loads) if not load)
            self.assertEqual(rates[0], Rate(pulls, len(loads) // len(tour)))
            self.assertLessEqual(endless_price(tour, loads).rate, rates[-1])

    def test_with_as_many_spares_as_trips(self):
        for tour in [BOTH, RING, BOTH | BOTH, *some_tours(35, 30, "abc", 2)]:
            for loads in product((F, T), repeat=len(tour)):
                if len(tour) <= 6:
                    self.assertEqual(known_price(tour, loads, len(tour)).rate, endless_price(tour, loads).rate)

    def test_rows_of_which_all_or_none_are_loads(self):
        for tour in (BOTH, RING, TWELVE):
            paper = known_price(tour, [T] * len(tour), 1)
            self.assert_same(str(paper.rate), "0")
            self.assertEqual(set(paper.words), {"load"})
            self.assertTrue(is_right_known(tour, [T] * len(tour), 1, paper))
            paper = known_price(tour, (F,) * len(tour), 0)
            self.assertEqual(paper.rate, tour.whole_price)
            self.assertEqual(set(paper.words), {"pull"})
        paper = known_price(RING, [F] * 3, 1)
        self.assert_same(str(paper.rate), "3/2")
        self.assertTrue(is_right_known(RING, [F] * 3, 1, paper))

    def test_the_longest_row_of_seven_trips(self):
        seven = RING + (BOTH | BOTH)
        self.assertTrue(is_right_known(seven, [F, T] * 21, 1, known_price(seven, [F, T] * 21, 1)))
        self.assertTrue(is_right_rings(seven, [F, T] * 21, endless_price(seven, [F, T] * 21)))

    def test_prices_0(self):
        paper = known_price(RING.priced([0, 0, 0]), [F, T, F], 2)
        self.assert_same(str(paper.rate), "0")
        self.assertTrue(is_right_known(RING.priced([0, 0, 0]), [F, T, F], 2, paper))

    def test_a_row_of_48_loads_of_a_tour_of_12_trips(self):
        chance = random.Random(36)
        loads = [chance.random() < 0.3 for _ in range(48)]
        for number in (0, 1):
            paper = known_price(TWELVE, loads, number)
            self.assertTrue(is_right_known(TWELVE, loads, number, paper))
        self.assert_raises("TooMany", ["places", 400], known_price, TWELVE, loads, 2)
        back = BOTH * 6
        for number in range(7):
            paper = known_price(back, loads, number)
            self.assertTrue(is_right_known(back, loads, number, paper))

    def test_too_many_places(self):
        four = Tour.around("a", "b", "c") + BOTH
        # Ten places of three spares.
        paper = known_price(four, [F] * 40, 3)
        self.assertTrue(is_right_known(four, [F] * 40, 3, paper))
        self.assertEqual(len(paper.heights), 400)
        self.assert_raises("TooMany", ["places", 400], known_price, four, [F] * 45, 3)
        self.assert_raises("TooMany", ["places", 400], known_price, four, [F] * 40, 4)
        # 21 places of two spares.
        self.assertEqual(len(known_price(SIX, [F] * 18, 2).heights), 378)
        self.assert_raises("TooMany", ["places", 400], known_price, SIX, [F] * 24, 2)
        self.assert_raises("TooMany", ["places", 400], known_price, SIX, [F] * 6, 6)

    def test_errors(self):
        for value in any_values():
            if not isinstance(value, Tour):
                self.assert_raises("BadTour", ["tour"], known_price, value, value, value)
                self.assert_raises("BadTour", ["tour"], endless_price, value, value)
            if isinstance(value, bool) or not isinstance(value, int) or not 0 <= value <= 6:
                self.assert_raises("BadCount", [value], known_price, BOTH, [F, F], value)
                self.assert_raises("BadCount", [value], known_price, SIX, [F] * 48, value)
            self.assert_raises("BadLoads", [None], known_price, BOTH, [F], value)
            self.assert_raises("BadLoads", [1], known_price, BOTH, [F, None], value)
        for number in (-1, 7):
            self.assert_raises("BadCount", [number], known_price, BOTH, [F, F], number)

    def test_wrong_loads(self):
        for work in (lambda tour, loads: known_price(tour, loads, -1), endless_price):
            for value in any_values():
                if not same(value, [F, F]):
                    told = [0] if isinstance(value, (list, tuple)) and len(value) in (2, 4) else [None]
                    self.assert_raises("BadLoads", told, work, BOTH, value)
            for many in (0, 1, 3, 47, 49, 50, 52, 96):
                self.assert_raises("BadLoads", [None], work, BOTH, [F] * many)
                self.assert_raises("BadLoads", [None], work, BOTH, (1,) * many)
            for many in (0, 1, 2, 4, 8, 46, 47, 49, 51):
                self.assert_raises("BadLoads", [None], work, RING, (T,) * many)
            seven = RING + (BOTH | BOTH)
            for many in (1, 6, 8, 41, 43, 48, 49, 56):
                self.assert_raises("BadLoads", [None], work, seven, [F] * many)
            for value in ("lnln", {0: F, 1: F}, {F: 1, T: 2}, 2, "ab", None):
                self.assert_raises("BadLoads", [None], work, BOTH, value)

    def test_an_item_that_is_no_bool(self):
        for work in (lambda tour, loads: known_price(tour, loads, -1), endless_price):
            for value in any_values():
                if not isinstance(value, bool):
                    for at in range(6):
                        loads = [F, T, F, T, F, F]
                        loads[at] = value
                        self.assert_raises("BadLoads", [at], work, RING, loads)
                        self.assert_raises("BadLoads", [at], work, RING, (*loads[:at + 1], *[None] * (5 - at)))

    def test_a_paper_belongs_to_the_caller(self):
        loads = [F, F]
        paper = known_price(BOTH, loads, 1)
        self.assertEqual(loads, [F, F])
        loads[0] = T
        self.assertTrue(is_right_known(BOTH, [F, F], 1, paper))
        paper.heights.clear()
        self.assertTrue(is_right_known(BOTH, [F, F], 1, known_price(BOTH, [F, F], 1)))
        rings = endless_price(BOTH, [F, F])
        rings.heights["a"] = 100
        self.assertTrue(is_right_rings(BOTH, [F, F], endless_price(BOTH, [F, F])))


class EndlessTest(Case):
    def test_all_level_lots_of_small_rows(self):
        chance = random.Random(41)
        for tour in [BOTH, RING, BOTH | BOTH, *some_tours(42, 60, "abcd", 2)]:
            for _ in range(3):
                loads = random_loads(chance, tour, 12)
                unloaded = [index for index, load in enumerate(loads) if not load]
                trips = [tour[index % len(tour)] for index in unloaded]
                most = max(sum(trip.price for trip in lot) for many in range(len(trips) + 1)
                           for lot in combinations(trips, many) if is_level(lot)) if len(trips) < 10 else None
                paper = endless_price(tour, loads)
                self.assertTrue(is_right_rings(tour, loads, paper), f"{tour} {loads}")
                self.assertEqual(paper, endless_price(loads=tuple(loads), tour=tour))
                if most is not None:
                    self.assertEqual(sum(tour[index % len(tour)].price for index in paper.left), most)

    def test_long_rows(self):
        chance = random.Random(43)
        for tour in [TWELVE, ~TWELVE, SIX, BOTH * 6, *some_tours(44, 40, "abcdef", 4)]:
            many = 48 // len(tour) * len(tour)
            for share in (0, 0.2, 0.5, 0.8, 1):
                loads = [chance.random() < share for _ in range(many)]
                paper = endless_price(tour, loads)
                self.assertTrue(is_right_rings(tour, loads, paper), f"{tour} {loads}")

    def test_all_trips_are_left_without_loads(self):
        for tour in (BOTH, RING, SIX, SIX * 2):
            paper = endless_price(tour, [F] * len(tour))
            self.assert_same((str(paper.rate), paper.left), ("0", tuple(range(len(tour)))))
        paper = endless_price(BOTH, [T] * 48)
        self.assert_same((str(paper.rate), paper.left), ("0", ()))

    def test_a_ring_that_is_taken_back_for_a_better_one(self):
        tour = Tour(Trip("a", "b", 5), Trip("b", "a", 5), Trip("b", "c", 9), Trip("c", "a", 9), Trip("a", "b", 0))
        for row in product((F, T), repeat=5):
            self.assertTrue(is_right_rings(tour, row, endless_price(tour, row)))
        paper = endless_price(tour, [F, F, F, F, T])
        self.assert_same((str(paper.rate), paper.left), ("5", (0, 2, 3)))


class PaperTest(Case):
    def test_any_values(self):
        for value in any_values():
            known = Known(value, [value], (value,), {1: value})
            self.assert_same((known.rate, known.start, known.words, known.heights),
                             (value, [value], (value,), {1: value}))
            self.assertEqual(set(vars(known)), {"rate", "start", "words", "heights"})
            self.assertEqual(known, Known(heights={1: value}, words=(value,), start=[value], rate=value))
            rings = Rings(value, [value], {1: value})
            self.assert_same((rings.rate, rings.left, rings.heights), (value, [value], {1: value}))
            self.assertEqual(set(vars(rings)), {"rate", "left", "heights"})
            self.assertEqual(rings, Rings(heights={1: value}, left=[value], rate=value))
            self.assertNotEqual(known, value)
            self.assertNotEqual(rings, value)

    def test_equality(self):
        for made, parts in ((Known, [Rate(1), (0, 1), ("load",), {(0, (0, 1)): 1}]), (Rings, [Rate(1), (0,), {"a": 1}])):
            self.assertIs(made(*parts) == made(*parts), True)
            self.assertIs(made(*parts) != made(*parts), False)
            for at in range(len(parts)):
                for value in (None, True, list(parts[1]), Rate(2), {}):
                    changed = [*parts[:at], value, *parts[at + 1:]]
                    self.assertIs(made(*changed) == made(*parts), False)
                    self.assertIs(made(*parts) == made(*changed), False)
            self.assertIs(made(*parts) == tuple(parts), False)
        self.assertIs(Rings(1, 2, 3) == Known(1, 2, 3, 4), False)

    def test_an_argument_that_is_changed_later(self):
        words, heights = ["load"], {0: [1]}
        known, rings = Known(words, words, words, heights), Rings(words, words, heights)
        words.append("pull")
        heights[0].append(2)
        self.assertEqual(known, Known(["load"], ["load"], ["load"], {0: [1]}))
        self.assertEqual(rings, Rings(["load"], ["load"], {0: [1]}))


if __name__ == "__main__":
    unittest.main()
