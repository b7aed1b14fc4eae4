"""The quick way to strandings, spares and fair words, held against loads that are driven one by one."""

import time
import unittest
from itertools import product

from checks import Case, any_values
from emptypulls.depots import Depot
from emptypulls.stands import Stand, is_safe, need, place_of, spares, stranding
from emptypulls.tours import Tour
from reference import indexes, moved, need_at, some_tours, stand_at

BOTH = Tour.there_and_back("a", "b", 5)
BIG = 10 ** 60 - 1
LONG = Tour.around("abcdefgh", "bcdefghi", "cdefghij", "defghijk", "efghijkl", "fghijklm") * 2


def loads_one_by_one(tour, numbers, index=0):
    """The shortest row of loads behind which one is left standing, by driving them; None behind a whole tour."""
    ways = indexes(tour)
    for many in range(len(ways)):
        numbers = moved(ways[(index + many) % len(ways)], numbers)
        if numbers is None:
            return (True,) * (many + 1)
    return None


def all_numbers(tour, most):
    return product(range(most + 1), repeat=len(tour.yards))


def less(one, other):
    return tuple(x - y for x, y in zip(one, other))


def fair_words(tour, numbers, index):
    """The words behind which no row of loads leaves one standing."""
    behind = (index + 1) % len(tour)
    driven = moved(indexes(tour)[index], numbers)
    words = [] if driven is None or loads_one_by_one(tour, driven, behind) else ["load", "pull"]
    return tuple(words + ([] if loads_one_by_one(tour, numbers, behind) else ["leave"]))


class OneByOneTest(Case):
    def test_small_stands_of_small_tours_at_each_index(self):
        for tour in [BOTH, BOTH | BOTH, Tour.around("a", "b", "c"), *some_tours(81, 30)]:
            for index in range(len(tour)):
                for numbers in all_numbers(tour, 3 if len(tour.yards) < 3 else 2):
                    self.look(tour, index, numbers)

    def test_numbers_of_sixty_figures(self):
        for tour in [BOTH, *some_tours(82, 12)]:
            for index in range(len(tour)):
                for some in product((0, 1, BIG), repeat=len(tour.yards)):
                    self.look(tour, index, some)

    def look(self, tour, index, numbers):
        begun, stand = tour >> index, stand_at(tour, numbers)
        loads = loads_one_by_one(tour, numbers, index)
        depot = Depot(tour, stand, index)
        self.assert_same(stranding(begun, stand), loads)
        self.assert_same(is_safe(begun, stand), loads is None)
        self.assert_same(place_of(tour, stand), numbers)
        self.assertEqual(need(begun), stand_at(tour, need_at(tour, index)))
        self.assert_same(depot.fair_words(), fair_words(tour, numbers, index))
        if loads is None:
            spare = stand_at(tour, less(numbers, need_at(tour, index)))
            self.assertEqual(spares(begun, stand), spare)
            self.assertEqual(depot.spares_now(), spare)
        else:
            self.assert_raises("Unsafe", [loads], spares, begun, stand)
            self.assert_raises("Unsafe", [loads], depot.spares_now)
        self.assertEqual((str(stand), depot.stand_now, depot.next_index), (str(stand_at(tour, numbers)), stand, index))

    def test_moved_against_the_numbers(self):
        tour = Tour.around("a", "b", "c")
        for numbers in product((0, 1, 2, BIG), repeat=3):
            for start, goal in product(range(3), repeat=2):
                stand, yards = stand_at(tour, numbers), (tour.yards[start], tour.yards[goal])
                if start == goal and numbers[start] > 0:
                    self.assertEqual(stand.moved(*yards), stand)
                elif numbers[start] == 0:
                    self.assert_raises("NoTrailer", [yards[0]], stand.moved, *yards)
                else:
                    behind = stand.moved(*yards)
                    self.assertEqual(behind, stand_at(tour, moved((start, goal), numbers)))
                    self.assert_same(list(behind), sorted(yard for yard in tour.yards if behind[yard] > 0))
                self.assertEqual(stand, stand_at(tour, numbers))

    def test_the_errors_come_in_their_order(self):
        for work in (stranding, spares, is_safe):
            for value in any_values():
                if not isinstance(value, Tour):
                    self.assert_raises("BadTour", ["tour"], work, value, None)
                if not isinstance(value, Stand):
                    self.assert_raises("BadStand", ["stand"], work, BOTH, value)
            self.assert_raises("NoYard", ["c"], work, BOTH, Stand({"d": BIG, "c": 1}))


class TimeTest(Case):
    def test_strandings_and_spares_take_about_as_long_as_the_question_for_safety(self):
        safe = need(LONG) + Stand({yard: 3 for yard in LONG.yards})
        least = self.time_of(lambda: is_safe(LONG, safe))
        for stand in (safe, Stand({LONG.yards[0]: 1}), safe + Stand({LONG.yards[1]: BIG})):
            self.assertLess(self.time_of(lambda: stranding(LONG, stand)), 6 * least)
        self.assertLess(self.time_of(lambda: spares(LONG, safe)), 6 * least)
        self.assertLess(self.time_of(lambda: safe.moved(LONG.yards[0], LONG.yards[1])), 6 * least)
        self.assertLess(self.time_of(Depot(LONG, safe, 5).spares_now), 6 * least)
        self.assertLess(self.time_of(Depot(LONG, safe, 5).fair_words), 8 * least)

    def time_of(self, work):
        """The least time of some rows of calls, which hangs little on what else the machine does."""
        times = []
        for _ in range(5):
            begun = time.perf_counter()
            for _ in range(200):
                work()
            times.append(time.perf_counter() - begun)
        return min(times)


if __name__ == "__main__":
    unittest.main()
