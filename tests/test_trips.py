import unittest

from checks import Case, any_values
from emptypulls.trips import Trip

WRONG_NAMES = ["", "abcdefghi", "A", "aB", "a b", "a1", "a>b", " a", "a ", "a\n", "-", "a_b", 1, 0, True, None,
               (), ("a",), ["a"], {"a": 1}]


def no_names():
    return [*WRONG_NAMES, *(value for value in any_values() if value not in ("a", "b"))]


class MakingTest(Case):
    def test_attributes(self):
        trip = Trip("a", "b", 5)
        self.assert_same((trip.start, trip.goal, trip.price), ("a", "b", 5))
        trip = Trip(price=7, goal="z", start="abcdefgh")
        self.assert_same((trip.start, trip.goal, trip.price), ("abcdefgh", "z", 7))
        self.assertEqual(vars(Trip("a", "b")), {"start": "a", "goal": "b", "price": 1})

    def test_prices(self):
        self.assert_same(Trip("a", "b").price, 1)
        for price in (0, 1, 50, 99):
            self.assert_same(Trip("a", "b", price).price, price)
        for price in (-1, 100, True, False, None, "1", 10 ** 59):
            self.assert_raises("BadTrip", ["price"], Trip, "a", "b", price)

    def test_most(self):
        self.assert_same(Trip.MOST, 99)
        self.assert_same(Trip("a", "b").MOST, 99)

    def test_wrong_names(self):
        for value in no_names():
            self.assert_raises("BadName", [value], Trip, value, "a")
            self.assert_raises("BadName", [value], Trip, "a", value)

    def test_the_first_wrong_name_is_told(self):
        for value in no_names():
            self.assert_raises("BadName", [value], Trip, value, "A", -1)
            self.assert_raises("BadName", ["A"], Trip, "A", value, value)
            self.assert_raises("BadName", [value], Trip, value, value)

    def test_names_come_ahead_of_the_price(self):
        self.assert_raises("BadName", [1], Trip, "a", 1, -1)
        self.assert_raises("BadName", [""], Trip, "", "", None)

    def test_the_same_yard_comes_ahead_of_the_price(self):
        self.assert_raises("BadTrip", ["goal"], Trip, "a", "a")
        self.assert_raises("BadTrip", ["goal"], Trip, "abcdefgh", "abcdefgh", 100)
        self.assert_raises("BadTrip", ["goal"], Trip, "a", "a", None)

    def test_wrong_prices_of_all_kinds(self):
        for value in any_values():
            if isinstance(value, bool) or not isinstance(value, int) or not 0 <= value <= 99:
                self.assert_raises("BadTrip", ["price"], Trip, "a", "b", value)

    def test_an_error_keeps_the_name_as_it_was(self):
        name = ["a"]
        try:
            Trip(name, "b")
        except ValueError as error:
            name.append("b")
            self.assertEqual(error.value, ["a"])


class DoingTest(Case):
    def test_exchanged(self):
        trip = Trip("a", "b", 5)
        self.assertEqual(~trip, Trip("b", "a", 5))
        self.assertIs(type(~trip), Trip)
        self.assertEqual(~~trip, trip)
        self.assertEqual(str(trip), "a>b 5")

    def test_another_price(self):
        trip = Trip("a", "b", 5)
        for price in (0, 1, 99):
            self.assertEqual(trip.priced(price), Trip("a", "b", price))
        self.assertEqual(trip.priced(price=3), Trip("a", "b", 3))
        for value in (-1, 100, True, None, "5", [5], trip):
            self.assert_raises("BadTrip", ["price"], trip.priced, value)
        self.assertEqual(trip.price, 5)

    def test_touches(self):
        trip = Trip("a", "bc")
        for value in any_values():
            self.assertIs(trip.touches(value), value == "a")
        self.assertIs(trip.touches(yard="bc"), True)
        self.assertIs(trip.touches("b"), False)
        self.assertIs(trip.touches(["a"]), False)

    def test_equality(self):
        trip = Trip("a", "b", 1)
        self.assertIs(trip == Trip("a", "b"), True)
        self.assertIs(trip != Trip("a", "b"), False)
        for other in (Trip("b", "a"), Trip("a", "c"), Trip("c", "b"), Trip("a", "b", 2)):
            self.assertIs(trip == other, False)
            self.assertIs(trip != other, True)
        for value in any_values():
            self.assertIs(trip == value, isinstance(value, Trip))


class TextTest(Case):
    def test_each_text_is_read_again(self):
        for price in range(100):
            trip = Trip("ab", "abcdefgh", price)
            self.assert_same(str(trip), f"ab>abcdefgh {price}")
            self.assertEqual(Trip.read(str(trip)), trip)
            self.assert_same(Trip.read(text=str(trip)).price, price)
        self.assertIs(type(Trip.read("a>b 5")), Trip)

    def test_what_is_no_string(self):
        for value in any_values():
            if not isinstance(value, str):
                self.assert_raises("BadText", [0, 0], Trip.read, value)

    def test_word_0(self):
        for word in ("", "a", "a>", ">b", ">", "a>a", "a>b>c", "A>b", "a>B", "a<b", "a>>b", "abcdefghi>b",
                     "a>abcdefghi", "a>1", "1>a", "a,b", "a>b,", "\na>b", "a>b\n"):
            for rest in ("", " 5", " x", " 5 5", " ", " 100"):
                self.assert_raises("BadText", [0, 0], Trip.read, word + rest)
        self.assert_raises("BadText", [0, 0], Trip.read, " a>b 5")

    def test_word_1(self):
        self.assert_raises("BadText", [0, 1], Trip.read, "a>b")
        for word in ("", "x", "-1", "100", "05", "00", "+5", "5,", "5.", "-0", "1_0", "5\n", "\n5", "1000", "0x1"):
            for rest in ("", " 5", " "):
                self.assert_raises("BadText", [0, 1], Trip.read, f"a>b {word}{rest}")

    def test_word_2(self):
        for rest in (" ", " x", " b>a 1", " 5 5", "  "):
            self.assert_raises("BadText", [0, 2], Trip.read, f"a>b 5{rest}")


if __name__ == "__main__":
    unittest.main()
