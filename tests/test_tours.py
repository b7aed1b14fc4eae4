import random
import unittest

from checks import Case, any_values
from emptypulls.rates import Rate
from emptypulls.tours import Tour
from emptypulls.trips import Trip

BOTH = Tour.there_and_back("a", "b", 5)
RING = Tour.around("a", "b", "c")
SIX = Tour.around(*"abcdef")
TWELVE = Tour.around(*"abcdef") * 2


def there(many):
    """As many trips there and back between a and b, by turns."""
    return [Trip("a", "b") if at % 2 == 0 else Trip("b", "a") for at in range(many)]


def around(yards):
    return [Trip(start, goal) for start, goal in zip(yards, yards[1:] + yards[:1])]


def no_tours():
    return [value for value in any_values() if not isinstance(value, Tour)]


def no_integers():
    return [value for value in any_values() if isinstance(value, bool) or not isinstance(value, int)]


class MakingTest(Case):
    def test_attributes(self):
        trips = (Trip("c", "b", 2), Trip("b", "c", 3))
        tour = Tour(*trips)
        self.assert_same((tour.trips, tour.yards, tour.whole_price, len(tour)), (trips, ("b", "c"), 5, 2))
        self.assertEqual(set(vars(tour)), {"trips", "yards"})
        self.assertIsInstance(vars(Tour)["whole_price"], property)

    def test_yards_are_ascending(self):
        tour = Tour(*around(["c", "ab", "b", "a"]))
        self.assert_same(tour.yards, ("a", "ab", "b", "c"))

    def test_too_few_trips(self):
        self.assert_raises("BadTour", ["trips"], Tour)
        self.assert_raises("BadTour", ["trips"], Tour, Trip("a", "b"))

    def test_what_is_no_trip(self):
        for value in any_values():
            if not isinstance(value, Trip):
                self.assert_raises("BadTour", ["trips"], Tour, value)
                self.assert_raises("BadTour", ["trips"], Tour, *there(2), value)
                self.assert_raises("BadTour", ["trips"], Tour, value, *there(13))

    def test_the_number_of_trips(self):
        for many in range(2, 13, 2):
            self.assertEqual(len(Tour(*there(many))), many)
        for many in (13, 14, 100):
            self.assert_raises("TooMany", ["trips", 12], Tour, *there(many))
        self.assertEqual(len(TWELVE), 12)

    def test_the_number_of_yards(self):
        self.assertEqual(len(SIX.yards), 6)
        self.assert_raises("TooMany", ["yards", 6], Tour, *around(list("abcdefg")))

    def test_unbalanced(self):
        self.assert_raises("Unbalanced", ["a"], Tour, Trip("a", "b"), Trip("b", "c"))
        self.assert_raises("Unbalanced", ["b"], Tour, *there(2), Trip("c", "b"))
        self.assert_raises("Unbalanced", ["b"], Tour, *around(["a", "d", "e"]), Trip("c", "b"))
        self.assert_raises("Unbalanced", ["a"], Tour, Trip("b", "a"), Trip("b", "a"))
        self.assert_raises("Unbalanced", ["ab"], Tour, Trip("b", "ab"), Trip("b", "ab"), Trip("ab", "c"))

    def test_several_errors_at_once(self):
        seven = around(list("abcdefg"))
        self.assert_raises("TooMany", ["trips", 12], Tour, *seven, *seven)
        self.assert_raises("TooMany", ["yards", 6], Tour, *seven, Trip("a", "b"))
        self.assert_raises("BadTour", ["trips"], Tour, *seven, *seven, None)
        self.assert_raises("TooMany", ["trips", 12], Tour, *there(13), Trip("c", "d"))

    def test_same_trips_may_come_again(self):
        trip = Trip("a", "b")
        self.assertEqual(len(Tour(trip, trip, ~trip, ~trip)), 4)


class RowTest(Case):
    def test_iteration(self):
        trips = around(["a", "b", "c"])
        self.assertEqual(list(RING), trips)
        self.assertEqual([trip for trip in RING], trips)
        self.assertEqual(list(zip(RING, RING)), list(zip(trips, trips)))

    def test_in(self):
        self.assertIs(Trip("b", "c") in RING, True)
        self.assertIs(Trip("c", "b") in RING, False)
        self.assertIs(Trip("b", "c", 2) in RING, False)
        for value in any_values():
            self.assertIs(value in RING, isinstance(value, Trip))
            self.assertIs(value in ~RING, False)

    def test_indexes(self):
        for at in range(-12, 12):
            self.assertEqual(TWELVE[at], TWELVE.trips[at])
            self.assertIs(type(TWELVE[at]), Trip)

    def test_slices(self):
        steps = [None, 1, 2, 5, -1, -3, 20, -20]
        ends = [None, 0, 1, 3, 11, 12, 40, -1, -5, -12, -40]
        for first in ends:
            for last in ends:
                self.assert_same(TWELVE[first:last], TWELVE.trips[first:last])
                for step in steps:
                    self.assert_same(TWELVE[first:last:step], TWELVE.trips[first:last:step])
        self.assert_same(RING[3:], ())

    def test_whole_price(self):
        self.assert_same(Tour.there_and_back("a", "b", 99, 0).whole_price, 99)
        self.assert_same(Tour.there_and_back("a", "b", 0, 0).whole_price, 0)
        self.assert_same(TWELVE.whole_price, 12)


class OperatorTest(Case):
    def test_one_behind_another(self):
        tour = BOTH + RING
        self.assert_same(tour.trips, BOTH.trips + RING.trips)
        self.assertEqual(len(BOTH), 2)
        self.assertEqual(len(SIX + SIX), 12)

    def test_by_turns(self):
        self.assertEqual(str(BOTH | RING), "a>b 5, a>b 1, b>a 1, b>c 1, c>a 1")
        self.assertEqual(str(RING | BOTH), "a>b 1, a>b 5, b>c 1, b>a 1, c>a 1")
        self.assertEqual(str(BOTH | ~BOTH), "a>b 5, a>b 1, b>a 1, b>a 5")
        self.assertEqual(str(BOTH | SIX), "a>b 5, a>b 1, b>a 1, b>c 1, c>d 1, d>e 1, e>f 1, f>a 1")

    def test_so_many_times(self):
        self.assertEqual(BOTH * 1, BOTH)
        for many in range(1, 7):
            self.assert_same((BOTH * many).trips, BOTH.trips * many)
            self.assert_same((many * BOTH).trips, BOTH.trips * many)

    def test_too_many(self):
        self.assert_raises("TooMany", ["trips", 12], lambda: TWELVE + BOTH)
        self.assert_raises("TooMany", ["trips", 12], lambda: BOTH | TWELVE)
        for many in (7, 8, 13, 10 ** 59):
            self.assert_raises("TooMany", ["trips", 12], lambda: BOTH * many)
            self.assert_raises("TooMany", ["trips", 12], lambda: many * BOTH)
        self.assert_raises("TooMany", ["trips", 12], lambda: 2 * Tour(*TWELVE[:6], *BOTH))
        self.assert_raises("TooMany", ["yards", 6], lambda: SIX + Tour.around("a", "g"))
        self.assert_raises("TooMany", ["yards", 6], lambda: SIX | Tour.around("a", "g"))
        self.assert_raises("TooMany", ["trips", 12], lambda: TWELVE + Tour.around("a", "g"))

    def test_other_operands(self):
        for value in no_tours():
            self.assert_raises("BadTour", ["other"], lambda: BOTH + value)
            self.assert_raises("BadTour", ["other"], lambda: BOTH | value)
        for value in [*no_integers(), 0, -1, -10 ** 59, BOTH, Rate(2)]:
            self.assert_raises("BadTour", ["other"], lambda: BOTH * value)
            self.assert_raises("BadTour", ["other"], lambda: value * BOTH)
        for value in no_integers():
            self.assert_raises("BadTour", ["other"], lambda: BOTH >> value)

    def test_a_tour_stands_on_the_left(self):
        for value in (1, "a", (), {}, None, Rate(1)):
            for work in (lambda: value + BOTH, lambda: value | BOTH, lambda: value >> BOTH):
                with self.assertRaises(TypeError):
                    work()

    def test_turned_about(self):
        tour = Tour.around("a", "b", "c").priced([1, 2, 3])
        self.assertEqual(str(~tour), "a>c 3, c>b 2, b>a 1")
        self.assertEqual(~~tour, tour)
        self.assertEqual(str(tour), "a>b 1, b>c 2, c>a 3")

    def test_begun_elsewhere(self):
        for number in [*range(-15, 16), 10 ** 59, -10 ** 59]:
            at = number % 3
            self.assert_same((RING >> number).trips, RING.trips[at:] + RING.trips[:at])
        self.assertEqual(str(RING >> -1), "c>a 1, a>b 1, b>c 1")
        self.assertEqual(RING >> 0, RING)

    def test_in_place(self):
        tour = kept = BOTH
        tour += RING
        self.assertEqual(tour, BOTH + RING)
        tour = kept
        tour |= RING
        self.assertEqual(tour, BOTH | RING)
        tour = kept
        tour *= 3
        self.assertEqual(tour, BOTH * 3)
        tour = kept
        tour >>= 1
        self.assertEqual(tour, BOTH >> 1)
        number = 3
        number *= kept
        self.assertEqual(number, BOTH * 3)
        self.assertEqual(str(kept), "a>b 5, b>a 1")

    def test_in_place_errors_leave_the_name(self):
        tour = BOTH
        for value in (None, 0, True, "a"):
            with self.assertRaises(ValueError):
                tour += value
            with self.assertRaises(ValueError):
                tour |= value
            with self.assertRaises(ValueError):
                tour *= value
        for value in (None, True, "a"):
            with self.assertRaises(ValueError):
                tour >>= value
        self.assertIs(tour, BOTH)


class RenamedTest(Case):
    def test_other_names(self):
        names = {"c": "x", "a": "b", "b": "abcdefgh"}
        tour = RING.priced([1, 2, 3]).renamed(names)
        self.assertEqual(str(tour), "b>abcdefgh 1, abcdefgh>x 2, x>b 3")
        self.assert_same(tour.yards, ("abcdefgh", "b", "x"))
        names["a"] = "z"
        self.assertEqual(tour[0], Trip("b", "abcdefgh"))
        self.assertEqual(names, {"c": "x", "a": "z", "b": "abcdefgh"})
        self.assertEqual(BOTH.renamed(names={"a": "b", "b": "a"}), Tour(Trip("b", "a", 5), Trip("a", "b")))

    def test_other_kinds(self):
        for value in any_values():
            self.assert_raises("BadTour", ["names"], BOTH.renamed, value)
        self.assert_raises("BadTour", ["names"], BOTH.renamed, [("a", "b"), ("b", "a")])

    def test_wrong_keys(self):
        for names in ({"a": "x"}, {"a": "x", "b": "y", "c": "z"}, {"a": "x", "c": "y"}, {"a": "x", 1: "y"},
                      {"a": "x", "B": "y"}, {"a": "x", None: "y"}, {"a": "x", ("b",): "y"},
                      {"a": "x", "b": "y", True: "z"}):
            self.assert_raises("BadTour", ["names"], BOTH.renamed, names)

    def test_wrong_names(self):
        for value in any_values():
            if value not in ("a", "b"):
                self.assert_raises("BadTour", ["names"], BOTH.renamed, {"a": "x", "b": value})
                self.assert_raises("BadTour", ["names"], BOTH.renamed, {"a": value, "b": "x"})
                self.assert_raises("BadTour", ["names"], BOTH.renamed, {"a": value, "b": value})

    def test_like_names(self):
        self.assert_raises("BadTour", ["names"], BOTH.renamed, {"a": "x", "b": "x"})
        self.assert_raises("BadTour", ["names"], RING.renamed, {"a": "x", "b": "y", "c": "x"})


class PricedTest(Case):
    def test_other_prices(self):
        prices = [0, 99, 7]
        tour = RING.priced(prices)
        prices[0] = 5
        self.assertEqual(str(tour), "a>b 0, b>c 99, c>a 7")
        self.assertEqual(RING.priced(prices=(1, 1, 1)), RING)
        self.assertEqual(RING.whole_price, 3)

    def test_other_kinds(self):
        for value in any_values():
            if value != (1, 2):
                self.assert_raises("BadTour", ["prices"], BOTH.priced, value)
        for value in ("12", {0: 1, 1: 2}, 12):
            self.assert_raises("BadTour", ["prices"], BOTH.priced, value)

    def test_wrong_numbers(self):
        for prices in ([], [1], [1, 2, 3], (1,), (1, 2, 3)):
            self.assert_raises("BadTour", ["prices"], BOTH.priced, prices)
        for value in (-1, 100, True, False, None, "1", [1], Rate(1), 10 ** 59):
            self.assert_raises("BadTour", ["prices"], BOTH.priced, [1, value])
            self.assert_raises("BadTour", ["prices"], BOTH.priced, (value, 1))


class StaticTest(Case):
    def test_there_and_back(self):
        self.assert_same(Tour.there_and_back("a", "b").trips, (Trip("a", "b", 1), Trip("b", "a", 1)))
        self.assert_same(Tour.there_and_back("b", "a", 0, 99).trips, (Trip("b", "a", 0), Trip("a", "b", 99)))
        self.assertEqual(Tour.there_and_back(back=2, price=3, other="x", one="y"),
                         Tour(Trip("y", "x", 3), Trip("x", "y", 2)))

    def test_there_and_back_errors(self):
        for value in any_values():
            if value not in ("a", "b"):
                self.assert_raises("BadName", [value], Tour.there_and_back, value, "a", -1)
                self.assert_raises("BadName", [value], Tour.there_and_back, "a", value, -1, -1)
        self.assert_raises("BadName", [1], Tour.there_and_back, 1, 2)
        self.assert_raises("BadTrip", ["goal"], Tour.there_and_back, "a", "a", -1)
        for value in (-1, 100, True, None, "1"):
            self.assert_raises("BadTrip", ["price"], Tour.there_and_back, "a", "b", value)
            self.assert_raises("BadTrip", ["price"], Tour.there_and_back, "a", "b", 1, value)

    def test_around(self):
        self.assert_same(RING.trips, (Trip("a", "b"), Trip("b", "c"), Trip("c", "a")))
        self.assert_same(Tour.around("b", "a").trips, (Trip("b", "a"), Trip("a", "b")))
        self.assertEqual(str(Tour.around("a", "b", "a", "c")), "a>b 1, b>a 1, a>c 1, c>a 1")
        self.assertEqual(len(Tour.around(*"ab" * 6)), 12)
        self.assertIsInstance(vars(Tour)["around"], staticmethod)
        self.assertIsInstance(vars(Tour)["there_and_back"], staticmethod)

    def test_around_errors(self):
        self.assert_raises("BadTour", ["trips"], Tour.around)
        self.assert_raises("BadTrip", ["goal"], Tour.around, "a")
        self.assert_raises("BadTrip", ["goal"], Tour.around, "a", "b", "a")
        self.assert_raises("BadTrip", ["goal"], Tour.around, "a", "b", "b")
        self.assert_raises("TooMany", ["trips", 12], Tour.around, *"ab" * 7)
        self.assert_raises("TooMany", ["trips", 12], Tour.around, *"abcdefg" * 2)
        self.assert_raises("TooMany", ["yards", 6], Tour.around, *"abcdefg")
        for value in any_values():
            if value not in ("a", "b"):
                self.assert_raises("BadName", [value], Tour.around, value)
                self.assert_raises("BadName", [value], Tour.around, value, "a")
                self.assert_raises("BadName", [value], Tour.around, "a", "b", value)


class EqualityTest(Case):
    def test_equal_trips_in_order(self):
        self.assertIs(BOTH == Tour(Trip("a", "b", 5), Trip("b", "a", 1)), True)
        self.assertIs(BOTH != Tour(Trip("a", "b", 5), Trip("b", "a", 1)), False)
        for other in (BOTH >> 1, BOTH * 2, BOTH.priced([5, 2]), ~BOTH, RING):
            self.assertIs(BOTH == other, False)
            self.assertIs(BOTH != other, True)
        for value in [*no_tours(), BOTH.trips, list(BOTH.trips), str(BOTH)]:
            self.assertIs(BOTH == value, False)
            self.assertIs(value == BOTH, False)


class TextTest(Case):
    def test_each_text_is_read_again(self):
        chance = random.Random(1)
        for tour in (BOTH, RING, SIX, TWELVE):
            for _ in range(30):
                tour = tour.priced([chance.randrange(100) for _ in tour])
                text = ", ".join(f"{trip.start}>{trip.goal} {trip.price}" for trip in tour.trips)
                self.assert_same(str(tour), text)
                self.assertEqual(Tour.read(text), tour)
                self.assertIs(type(Tour.read(text=text)), Tour)

    def test_what_is_no_string(self):
        for value in any_values():
            if not isinstance(value, str):
                self.assert_raises("BadText", [0, 0], Tour.read, value)

    def test_words_with_ways(self):
        for word in ("", "a", "a>", ">b", "a>a", "a>b>c", "A>b", "abcdefghi>b", "a>b,", "5", "5,", "\na>b", "a>b\n"):
            self.assert_raises("BadText", [0, 0], Tour.read, f"{word} 5, b>a 1")
            self.assert_raises("BadText", [0, 0], Tour.read, f"{word} x y z")
            self.assert_raises("BadText", [0, 2], Tour.read, f"a>b 5, {word} 1")
            self.assert_raises("BadText", [0, 2], Tour.read, f"a>b 5, {word}")
            self.assert_raises("BadText", [0, 4], Tour.read, f"a>b 5, b>a 1, {word} 1")
        self.assert_raises("BadText", [0, 0], Tour.read, "")
        self.assert_raises("BadText", [0, 0], Tour.read, " a>b 5, b>a 1")

    def test_words_with_prices(self):
        for word in ("", "x", "-1", "100", "05", "+5", "5.", "-0", "5,,", ",5", "5;", "\n5"):
            self.assert_raises("BadText", [0, 1], Tour.read, f"a>b {word}, b>a 1")
            self.assert_raises("BadText", [0, 1], Tour.read, f"a>b {word}")
            self.assert_raises("BadText", [0, 1], Tour.read, f"a>b {word} b>a 1")
            self.assert_raises("BadText", [0, 3], Tour.read, f"a>b 5, b>a {word}")
            self.assert_raises("BadText", [0, 3], Tour.read, f"a>b 5, b>a {word}, x")

    def test_commas(self):
        self.assert_raises("BadText", [0, 1], Tour.read, "a>b 5 b>a 1")
        self.assert_raises("BadText", [0, 3], Tour.read, "a>b 5, b>a 1,")
        self.assert_raises("BadText", [0, 1], Tour.read, "a>b 5,")
        self.assert_raises("BadText", [0, 4], Tour.read, "a>b 5, b>a 1, ")
        self.assert_raises("BadText", [0, 3], Tour.read, "a>b 5, b>a 1 ")
        self.assert_raises("BadText", [0, 1], Tour.read, "a>b 5 ,b>a 1")
        self.assert_raises("BadText", [0, 1], Tour.read, "a>b 5,b>a 1")
        self.assert_raises("BadText", [0, 2], Tour.read, "a>b 5,  b>a 1")
        self.assert_raises("BadText", [0, 1], Tour.read, "a>b  5, b>a 1")
        for sign in ".;x0":
            self.assert_raises("BadText", [0, 3], Tour.read, f"a>b 5, b>a 1{sign} a>b 1, b>a 1")

    def test_a_missing_word(self):
        self.assert_raises("BadText", [0, 1], Tour.read, "a>b")
        self.assert_raises("BadText", [0, 3], Tour.read, "a>b 5, b>a")
        self.assert_raises("BadText", [0, 23], Tour.read, str(TWELVE)[:-2])

    def test_thirteen_trips(self):
        for rest in (", a>b 1", ", a>b", ", ", ", x", ", a>b 1, b>a 1"):
            self.assert_raises("BadText", [0, 24], Tour.read, str(TWELVE) + rest)
        self.assert_raises("BadText", [0, 23], Tour.read, str(TWELVE) + ",")
        self.assert_raises("BadText", [0, 23], Tour.read, str(TWELVE) + " a>b 1")
        seven = ", ".join([str(trip) for trip in around(list("abcdefg"))] * 2)
        self.assert_raises("BadText", [0, 24], Tour.read, seven)

    def test_what_is_wrong_behind_the_words(self):
        self.assert_raises("BadTour", ["trips"], Tour.read, "a>b 5")
        self.assert_raises("TooMany", ["yards", 6], Tour.read,
                           ", ".join([str(trip) for trip in around(list("abcdefg"))]))
        self.assert_raises("TooMany", ["yards", 6], Tour.read, "a>b 1, c>d 1, e>f 1, g>h 1")
        self.assert_raises("Unbalanced", ["a"], Tour.read, "a>b 1, b>c 1")
        self.assert_raises("Unbalanced", ["b"], Tour.read, "a>b 1, b>a 1, b>c 1")
        self.assert_raises("BadText", [0, 3], Tour.read, "a>b 1, b>c x")


if __name__ == "__main__":
    unittest.main()
