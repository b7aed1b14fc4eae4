import random
import unittest

from checks import Case, any_values, same
from emptypulls.stands import Stand, is_safe, need, place_of, placings, spares, stranding
from emptypulls.tours import Tour
from emptypulls.trips import Trip
from reference import all_places, is_kept, moved, indexes, need_at, shortest_strandings, some_tours, stand_at

BOTH = Tour.there_and_back("a", "b", 5)
RING = Tour.around("a", "b", "c")
SIX = Tour.around(*"abcdef")
BIG = 10 ** 60 - 1
NO_NAMES = ["", "abcdefghi", "A", "a b", "a1", "a\n", " a", "-", 1, True, None, ("a",)]


def no_stands():
    return [value for value in any_values() if not isinstance(value, Stand)]


def no_names():
    return [*NO_NAMES, *(value for value in any_values() if value not in ("a", "b"))]


class MakingTest(Case):
    def test_none_to_seven_yards(self):
        for many in range(8):
            yards = list("gcafbed")[:many]
            stand = Stand({yard: at + 1 for at, yard in enumerate(yards)})
            self.assert_same(list(stand), sorted(yards))
            self.assert_same([yard for yard in stand], sorted(yards))
            self.assert_same((len(stand), stand.whole, bool(stand)), (many, many * (many + 1) // 2, many > 0))
            for at, yard in enumerate(yards):
                self.assert_same(stand[yard], at + 1)
                self.assertIs(yard in stand, True)

    def test_zeros_are_dropped(self):
        stand = Stand({"a": 0, "b": 2, "c": 0})
        self.assertEqual(stand, Stand({"b": 2}))
        self.assert_same((list(stand), len(stand), stand.whole, str(stand)), (["b"], 1, 2, "b 2"))
        self.assert_same((stand["a"], "a" in stand, "z" in stand, stand["z"]), (0, False, False, 0))
        empty = Stand({"a": 0})
        self.assert_same((list(empty), len(empty), empty.whole, bool(empty)), ([], 0, 0, False))
        self.assertIs(bool(stand), True)
        self.assertEqual(empty, Stand({}))

    def test_numbers_of_sixty_digits(self):
        stand = Stand({"a": BIG, "b": 1})
        self.assert_same((stand["a"], stand.whole), (BIG, BIG + 1))
        self.assert_same(str(stand), "a " + "9" * 60 + ", b 1")
        self.assert_same(str(stand + stand), "a " + str(2 * BIG) + ", b 2")
        self.assertEqual(stand + stand - stand, stand)

    def test_numbers_beyond_the_digits_that_python_writes(self):
        stand = Stand({"a": 10 ** 5000})
        self.assert_same(str(stand), "a 1" + "0" * 5000)

    def test_what_is_no_such_dict(self):
        for value in any_values():
            if same(value, {}) or same(value, {"a": 1}):
                self.assertEqual(Stand(value).whole, len(value))
            else:
                self.assert_raises("BadStand", ["numbers"], Stand, value)
        for number in (-1, True, False, None, "1", [1], (1,), {}, -10 ** 59, Stand({})):
            for numbers in ({"a": number}, {"a": 1, "b": number}, {"b": number, "a": 1}):
                self.assert_raises("BadStand", ["numbers"], Stand, numbers)
        for name in ("", "abcdefghi", "A", "a b", "a1", "a\n", 1, True, None, ("a",), (), "a,"):
            for number in (0, 1):
                self.assert_raises("BadStand", ["numbers"], Stand, {name: number})
                self.assert_raises("BadStand", ["numbers"], Stand, {"a": 1, name: number})

    def test_a_dict_that_is_changed_later(self):
        numbers = {"b": 1, "a": 0}
        stand = Stand(numbers=numbers)
        self.assertEqual(numbers, {"b": 1, "a": 0})
        numbers["b"] = 5
        numbers["c"] = 5
        del numbers["a"]
        self.assert_same((list(stand), stand["b"], str(stand)), (["b"], 1, "b 1"))


class ItemTest(Case):
    def test_items(self):
        stand = Stand({"a": 2, "abcdefgh": 3})
        self.assert_same((stand["a"], stand["abcdefgh"], stand["b"], stand["zzzzzzzz"]), (2, 3, 0, 0))

    def test_what_is_no_name(self):
        for value in no_names():
            self.assert_raises("BadName", [value], lambda: Stand({"a": 1})[value])

    def test_in(self):
        stand = Stand({"a": 1, "b": 0})
        for value in any_values():
            self.assertIs(value in stand, value == "a")

    def test_whole_is_a_property(self):
        self.assertIsInstance(vars(Stand)["whole"], property)


class OperatorTest(Case):
    def test_yard_by_yard(self):
        places = [(x, y, z) for x in range(3) for y in range(3) for z in range(3)]
        chance = random.Random(3)
        for one in places:
            for other in chance.sample(places, 9):
                left, right = stand_at(RING, one), stand_at(RING, other)
                whole = [x + y for x, y in zip(one, other)]
                less = [x - y for x, y in zip(one, other)]
                self.assertEqual(left + right, stand_at(RING, whole))
                self.assertIs(left <= right, all(x <= y for x, y in zip(one, other)))
                self.assertIs(right >= left, left <= right)
                if min(less) < 0:
                    self.assert_raises("BadStand", ["other"], lambda: left - right)
                else:
                    self.assertEqual(left - right, stand_at(RING, less))
                self.assertEqual((left, right), (stand_at(RING, one), stand_at(RING, other)))

    def test_other_yards(self):
        one, other = Stand({"a": 1, "b": 2}), Stand({"b": 1, "c": 1})
        self.assertEqual(one + other, Stand({"a": 1, "b": 3, "c": 1}))
        self.assert_raises("BadStand", ["other"], lambda: one - other)
        self.assertIs(one <= other, False)
        self.assertIs(Stand({}) <= other, True)
        self.assertIs(other <= Stand({}), False)
        self.assertEqual(one - one, Stand({}))

    def test_what_is_no_stand(self):
        stand = Stand({"a": 1})
        for value in no_stands():
            self.assert_raises("BadStand", ["other"], lambda: stand + value)
            self.assert_raises("BadStand", ["other"], lambda: stand - value)
            self.assert_raises("BadStand", ["other"], lambda: stand <= value)

    def test_in_place(self):
        one = same = Stand({"a": 2})
        one += Stand({"b": 1})
        self.assertEqual(one, Stand({"a": 2, "b": 1}))
        one -= Stand({"a": 1})
        self.assertEqual(one, Stand({"a": 1, "b": 1}))
        self.assertEqual(same, Stand({"a": 2}))
        with self.assertRaises(ValueError):
            one -= same
        self.assertEqual(one, Stand({"a": 1, "b": 1}))

    def test_moved(self):
        stand = Stand({"a": 1, "b": 1})
        self.assertEqual(stand.moved("a", "b"), Stand({"b": 2}))
        self.assertEqual(stand.moved(goal="c", start="b"), Stand({"a": 1, "c": 1}))
        self.assertEqual(stand.moved("a", "a"), stand)
        self.assert_raises("NoTrailer", ["c"], stand.moved, "c", "a")
        self.assert_raises("NoTrailer", ["c"], stand.moved, "c", "c")
        self.assertEqual(stand, Stand({"a": 1, "b": 1}))

    def test_moved_from_or_to_what_is_no_name(self):
        stand = Stand({"a": 1})
        for value in no_names():
            self.assert_raises("BadName", [value], stand.moved, value, "a")
            self.assert_raises("BadName", [value], stand.moved, value, "")
            self.assert_raises("BadName", [value], stand.moved, "a", value)
            self.assert_raises("BadName", [value], stand.moved, "b", value)

    def test_equality(self):
        stand = Stand({"a": 1, "b": 2})
        self.assertIs(stand == Stand({"b": 2, "a": 1, "c": 0}), True)
        self.assertIs(stand != Stand({"b": 2, "a": 1}), False)
        for other in (Stand({}), Stand({"a": 1}), Stand({"a": 2, "b": 1}), Stand({"a": 1, "b": 2, "c": 1})):
            self.assertIs(stand == other, False)
            self.assertIs(stand != other, True)
        for value in [*no_stands(), {"a": 1, "b": 2}, "a 1, b 2", (1, 2), ["a", "b"]]:
            self.assertIs(stand == value, False)
            self.assertIs(value == stand, False)


class TextTest(Case):
    def test_each_text_is_read_again(self):
        chance = random.Random(5)
        for many in range(8):
            for _ in range(10):
                yards = sorted(chance.sample(["a", "b", "aa", "ab", "abcdefgh", "z", "zz", "ba"], many))
                numbers = {yard: chance.choice([1, 2, 10, 10 ** 59, BIG]) for yard in yards}
                text = ", ".join(f"{yard} {numbers[yard]}" for yard in yards) or "-"
                self.assert_same(str(Stand(numbers)), text)
                self.assertEqual(Stand.read(text=text), Stand(numbers))
                self.assertIs(type(Stand.read(text)), Stand)

    def test_what_is_no_string(self):
        for value in any_values():
            if not isinstance(value, str):
                self.assert_raises("BadText", [0, 0], Stand.read, value)

    def test_words_with_names(self):
        for word in ("", "A", "a1", "abcdefghi", "1", "a,", "a\n", "--", "-,", "a-", "\na"):
            self.assert_raises("BadText", [0, 0], Stand.read, word)
            self.assert_raises("BadText", [0, 0], Stand.read, f"{word} 1")
            self.assert_raises("BadText", [0, 0], Stand.read, f"{word} x y")
            self.assert_raises("BadText", [0, 2], Stand.read, f"a 1, {word}")
            self.assert_raises("BadText", [0, 2], Stand.read, f"a 1, {word} 1")
            self.assert_raises("BadText", [0, 4], Stand.read, f"a 1, b 2, {word} 1")
        self.assert_raises("BadText", [0, 0], Stand.read, " a 1")

    def test_yards_twice_or_out_of_order(self):
        self.assert_raises("BadText", [0, 2], Stand.read, "b 1, a 2")
        self.assert_raises("BadText", [0, 2], Stand.read, "a 1, a 2")
        self.assert_raises("BadText", [0, 4], Stand.read, "a 1, c 2, b 3")
        self.assert_raises("BadText", [0, 4], Stand.read, "a 1, c 2, a 3, d 4")
        self.assert_raises("BadText", [0, 2], Stand.read, "ab 1, a 1")
        self.assert_raises("BadText", [0, 2], Stand.read, "b 1, a")
        self.assert_raises("BadText", [0, 1], Stand.read, "b 0, a 2")

    def test_words_with_numbers(self):
        for word in ("", "0", "00", "05", "-1", "+1", "1_0", "x", "1.", "1,,", ",1", "\n1", "1\n", "1" * 61, "\u00b2"):
            self.assert_raises("BadText", [0, 1], Stand.read, f"a {word}")
            self.assert_raises("BadText", [0, 1], Stand.read, f"a {word}, b 1")
            self.assert_raises("BadText", [0, 1], Stand.read, f"a {word} b 1")
            self.assert_raises("BadText", [0, 3], Stand.read, f"a 1, b {word}")
            self.assert_raises("BadText", [0, 3], Stand.read, f"a 1, b {word}, x")

    def test_digits(self):
        self.assert_same(Stand.read("a " + "9" * 60)["a"], BIG)
        self.assert_same(Stand.read("a 1" + "0" * 59 + ", b 1")["a"], 10 ** 59)
        self.assert_raises("BadText", [0, 1], Stand.read, "a 1" + "0" * 60)
        self.assert_raises("BadText", [0, 3], Stand.read, "a 1, b " + "9" * 61)

    def test_commas(self):
        self.assert_raises("BadText", [0, 1], Stand.read, "a 1 b 2")
        self.assert_raises("BadText", [0, 1], Stand.read, "a 1,")
        self.assert_raises("BadText", [0, 2], Stand.read, "a 1, ")
        self.assert_raises("BadText", [0, 1], Stand.read, "a 1 ")
        self.assert_raises("BadText", [0, 3], Stand.read, "a 1, b 2,")
        self.assert_raises("BadText", [0, 1], Stand.read, "a 1,b 2")
        self.assert_raises("BadText", [0, 2], Stand.read, "a 1,  b 2")
        self.assert_raises("BadText", [0, 1], Stand.read, "a  1")
        self.assert_raises("BadText", [0, 1], Stand.read, "a 1; b 2")

    def test_missing_words(self):
        self.assert_raises("BadText", [0, 0], Stand.read, "")
        self.assert_raises("BadText", [0, 1], Stand.read, "a")
        self.assert_raises("BadText", [0, 3], Stand.read, "a 1, b")
        self.assert_raises("BadText", [0, 13], Stand.read, "a 1, b 1, c 1, d 1, e 1, f 1, g")

    def test_the_stand_without_trailers(self):
        self.assert_same(str(Stand({})), "-")
        self.assertEqual(Stand.read("-"), Stand({}))
        for rest in (" ", " a", " a 1", " -", " 1"):
            self.assert_raises("BadText", [0, 1], Stand.read, "-" + rest)
        self.assert_raises("BadText", [0, 2], Stand.read, "a 1, -")
        self.assert_raises("BadText", [0, 1], Stand.read, "a -")
        self.assert_raises("BadText", [0, 0], Stand.read, "-\n")


class NeedTest(Case):
    def test_all_beginnings(self):
        for tour in [BOTH, RING, SIX, BOTH | BOTH, *some_tours(1, 60, "abcdef", 3)]:
            for first in range(-1, len(tour) + 1):
                later = tour >> first
                self.assertEqual(need(later), stand_at(tour, need_at(tour, first % len(tour))), str(later))
                self.assertIs(type(need(later)), Stand)

    def test_six_yards_and_twelve_trips(self):
        tour = Tour(*(Trip("f", yard) for yard in "abcde"), Trip("a", "f"), *(Trip(yard, "f") for yard in "bcde"))
        self.assertEqual(str(need(tour)), "f 5")
        self.assertEqual(str(need(~tour)), "f 5")
        self.assertEqual(str(need(tour >> 5)), "a 1, b 1, c 1, d 1, e 1")

    def test_what_is_no_tour(self):
        for value in any_values():
            if not isinstance(value, Tour):
                self.assert_raises("BadTour", ["tour"], need, value)


class SafeTest(Case):
    def test_against_a_puller_who_plays_for_ever(self):
        for tour in [BOTH, RING, BOTH | BOTH, *some_tours(2, 30)]:
            for number in range(5):
                kept = is_kept(tour, number)
                for first in range(len(tour)):
                    for numbers in all_places(len(tour.yards), number):
                        safe = is_safe(tour >> first, stand_at(tour, numbers))
                        self.assertIs(safe, (first, numbers) in kept, f"{tour} {first} {numbers}")

    def test_spares_and_strandings(self):
        for tour in [BOTH, RING, BOTH | BOTH, *some_tours(4, 30)]:
            for first in range(len(tour)):
                later, needed = tour >> first, need_at(tour, first)
                for number in range(4):
                    for numbers in all_places(len(tour.yards), number):
                        self.look_at(later, stand_at(tour, numbers), [x - y for x, y in zip(numbers, needed)])

    def look_at(self, tour, stand, above):
        if min(above) >= 0:
            self.assertIs(is_safe(tour, stand), True)
            self.assertIsNone(stranding(tour, stand))
            self.assertEqual(spares(tour, stand), stand_at(tour, above))
        else:
            row = stranding(tour, stand)
            numbers = place_of(tour, stand)
            for at, way in enumerate(indexes(tour)):
                numbers = moved(way, numbers)
                if numbers is None:
                    break
            self.assertIsNone(numbers)
            self.assert_same(row, (True,) * (at + 1))
            self.assertIs(is_safe(tour, stand), False)
            self.assert_raises("Unsafe", [row], spares, tour, stand)

    def test_strandings_against_all_rows_of_loads(self):
        for tour in [BOTH, RING, BOTH | BOTH, *some_tours(6, 12, "abc", 1)]:
            for number in range(4):
                for numbers in all_places(len(tour.yards), number):
                    row = stranding(tour, stand_at(tour, numbers))
                    rows = shortest_strandings(tour, numbers, len(tour) + 2)
                    self.assertEqual(row is None, rows == [], f"{tour} {numbers}")
                    if row is not None:
                        self.assertIn(row, rows)

    def test_names_of_the_parameters(self):
        two = Stand({"a": 1, "b": 1})
        self.assertIs(is_safe(stand=two, tour=BOTH), True)
        self.assertEqual(spares(stand=two, tour=BOTH), Stand({"b": 1}))
        self.assertIsNone(stranding(stand=two, tour=BOTH))
        self.assert_same(place_of(stand=two, tour=BOTH), (1, 1))
        self.assertEqual([str(stand) for stand in placings(number=1, tour=BOTH)], ["b 1", "a 1"])

    def test_errors_of_tour_and_stand(self):
        for work in (is_safe, spares, stranding, place_of):
            for value in any_values():
                if not isinstance(value, Tour):
                    self.assert_raises("BadTour", ["tour"], work, value, Stand({"z": 1}))
                    self.assert_raises("BadTour", ["tour"], work, value, value)
                if not isinstance(value, Stand):
                    self.assert_raises("BadStand", ["stand"], work, BOTH, value)
            self.assert_raises("NoYard", ["c"], work, BOTH, Stand({"c": 1, "d": 1}))
            self.assert_raises("NoYard", ["aa"], work, BOTH, Stand({"a": 1, "b": 1, "z": 1, "aa": 1}))
            self.assert_raises("NoYard", ["c"], work, BOTH, Stand({"c": BIG}))
            work(BOTH, Stand({"a": 1, "c": 0}))


class PlacingTest(Case):
    def test_all_tuples_of_numbers(self):
        for tour in (BOTH, RING, Tour.around(*"cadb")):
            for number in range(7):
                found = list(placings(tour, number))
                self.assertEqual([place_of(tour, stand) for stand in found], all_places(len(tour.yards), number))
                self.assertEqual(found, [stand_at(tour, place) for place in all_places(len(tour.yards), number)])
        found = [place_of(SIX, stand) for stand in placings(SIX, 6)]
        self.assertEqual(len(found), 462)
        self.assertEqual(found, sorted(found))
        self.assertEqual(len(set(found)), 462)
        self.assertEqual({sum(place) for place in found}, {6})

    def test_only_the_first_items(self):
        row = placings(SIX, 6)
        self.assertIs(iter(row), row)
        self.assertEqual([str(next(row)) for _ in range(3)], ["f 6", "e 1, f 5", "e 2, f 4"])
        again = placings(SIX, 6)
        self.assertEqual(str(next(again)), "f 6")
        self.assertEqual(str(next(row)), "e 3, f 3")

    def test_errors(self):
        for value in any_values():
            if not isinstance(value, Tour):
                self.assert_raises("BadTour", ["tour"], lambda: next(placings(value, value)))
            if isinstance(value, bool) or not isinstance(value, int) or not 0 <= value <= 6:
                self.assert_raises("BadCount", [value], lambda: next(placings(BOTH, value)))
        for number in (-1, 7):
            self.assert_raises("BadCount", [number], lambda: next(placings(BOTH, number)))
        self.assertEqual(list(placings(BOTH, 0)), [Stand({})])

    def test_place_of(self):
        tour = Tour.around("c", "a", "b")
        self.assert_same(place_of(tour, Stand({"c": 3, "b": 2})), (0, 2, 3))
        self.assert_same(place_of(tour, Stand({})), (0, 0, 0))
        self.assert_same(place_of(tour, Stand({"a": BIG})), (BIG, 0, 0))


if __name__ == "__main__":
    unittest.main()
