import unittest

from checks import Case, any_values, same
from emptypulls.digits import digits_of, is_digits, number_text, read_digits
from emptypulls.depots import Depot
from emptypulls.errors import BadName, NoDeed
from emptypulls.kinds import Twinned, are_same, copied, is_integer, is_integer_within, is_name
from emptypulls.known import Known, Rings
from emptypulls.orders import Rising
from emptypulls.rates import Rate
from emptypulls.stands import Stand
from emptypulls.tours import Tour


class KindTest(Case):
    def test_integers(self):
        for value in any_values():
            self.assertIs(is_integer(value), type(value) is int)
            self.assertIs(is_integer_within(value, 0, 1), type(value) is int and value in (0, 1))
        self.assertIs(is_integer_within(-1, -1, -1), True)

    def test_names(self):
        for value in ("a", "z", "abcdefgh", "zzzzzzzz"):
            self.assertIs(is_name(value), True)
        for value in ("", "abcdefghi", "A", "a b", "a1", "a\n", "`", "{", "\u00e9", 1, None, ["a"], ("a",), b"a"):
            self.assertIs(is_name(value), False)

    def test_copies_are_equal_and_share_nothing_that_changes(self):
        for value in any_values():
            self.assert_same(copied(value), value)
        inner = [1]
        for value in ([inner], (inner,), {"a": inner}, [({"a": [inner]},)]):
            made = copied(value)
            inner.append(2)
            self.assertNotEqual(made, value)
            inner.pop()
            self.assert_same(made, value)

    def test_copies_of_objects_that_change_go_their_own_way(self):
        depot = Depot(Tour.there_and_back("a", "b"), Stand({"a": 1}))
        for value in (depot, [depot], {"a": (depot,)}):
            made = copied(value)
            self.assertEqual(made, value)
            depot.drive("leave")
            self.assertNotEqual(made, value)
            depot.undo()
            self.assertEqual(made, value)
        paper = Rising(depot, 1, 2)
        depot.drive("leave")
        self.assertNotEqual(paper, Rising(depot, 1, 2))
        for paper in (Rising(1, 2, {}), Known(1, 2, 3, {}), Rings(1, 2, {})):
            made = copied([paper])
            table = paper.marks if isinstance(paper, Rising) else paper.heights
            table["a"] = 1
            self.assertNotEqual(made, [paper])
            table.clear()
            self.assertEqual(made, [paper])
        for value in (Rate(1), Stand({}), Tour.around("a", "b"), BadName([1]), NoDeed()):
            self.assertIs(copied(value), value)

    def test_each_class_has_a_twin_of_its_own(self):
        with self.assertRaises(NotImplementedError):
            Twinned().twin()
        for made in (Rising, Known, Rings, Depot):
            self.assertIn("twin", vars(made))

    def test_equal_values_in_their_kinds(self):
        for one in any_values():
            for other in any_values():
                # Errors equal themselves alone, and a Rate may equal an integer.
                if not isinstance(one, Exception) and not isinstance(one, Rate) and not isinstance(other, Rate):
                    self.assertIs(are_same(one, other), same(one, other), f"{one!r} {other!r}")
        self.assertIs(are_same(Rate(1), 1), True)
        self.assertIs(are_same(Rate(1), True), False)
        self.assertIs(are_same([1, (2, {"a": [3]})], [1, (2, {"a": [3]})]), True)
        for one, other in ((True, 1), (False, 0), ([True], [1]), ((1,), [1]), ({"a": True}, {"a": 1}), ([1], [1, 2]),
                           ({True: 2}, {1: 2}), ({(1, False): 2}, {(1, 0): 2}), ({"a": 1}, {"b": 1}), ({}, []),
                           ({"a": 1}, {"a": 1, "b": 2}), ("1", 1), (None, False), ([], ()), (((True,),), ((1,),))):
            self.assertIs(are_same(one, other), False, f"{one!r} {other!r}")
            self.assertIs(are_same(other, one), False, f"{one!r} {other!r}")
        self.assertIs(are_same({"a": 1, "b": [2]}, {"b": [2], "a": 1}), True)


class DigitsTest(Case):
    def test_numbers_as_texts(self):
        for number in [0, 9, 10, *(10 ** many + more for many in (59, 60, 61, 120) for more in (-1, 0, 1))]:
            self.assert_same(digits_of(number), str(number))
            self.assert_same(number_text(number), str(number))
            self.assert_same(number_text(-number), str(-number))
            self.assert_same(read_digits(str(number)), number)
            self.assert_same(read_digits("000" + str(number)), number)

    def test_what_is_no_row_of_digits(self):
        for text in ("0", "0123456789", "9" * 100):
            self.assertIs(is_digits(text), True)
        for text in ("", "-1", "+1", " 1", "1 ", "1_0", "1\n", "a", "\u00b2", "/", ":"):
            self.assertIs(is_digits(text), False)


if __name__ == "__main__":
    unittest.main()
