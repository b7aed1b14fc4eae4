import unittest

from checks import Case, any_values
from emptypulls.digits import digits_of, is_digits, number_text, read_digits
from emptypulls.kinds import copied, is_integer, is_integer_within, is_name


class KindTest(Case):
    def test_integers(self):
        for value in any_values():
            self.assertIs(is_integer(value), type(value) is int)
            self.assertIs(is_integer_within(value, 0, 1), type(value) is int and value in (0, 1))
        self.assertIs(is_integer_within(-1, -1, -1), True)

    def test_names(self):
        for value in ("a", "z", "abcdefgh", "zzzzzzzz"):
            self.assertIs(is_name(value), True)
        for value in ("", "abcdefghi", "A", "a b", "a1", "a\n", "`", "{", "\u00e9", 1, None, ["a"], ("a",), b"a"):
            self.assertIs(is_name(value), False)

    def test_copies_are_equal_and_share_nothing_that_changes(self):
        for value in any_values():
            self.assert_same(copied(value), value)
        inner = [1]
        for value in ([inner], (inner,), {"a": inner}, [({"a": [inner]},)]):
            made = copied(value)
            inner.append(2)
            self.assertNotEqual(made, value)
            inner.pop()
            self.assert_same(made, value)


class DigitsTest(Case):
    def test_numbers_as_texts(self):
        for number in [0, 9, 10, *(10 ** many + more for many in (59, 60, 61, 120) for more in (-1, 0, 1))]:
            self.assert_same(digits_of(number), str(number))
            self.assert_same(number_text(number), str(number))
            self.assert_same(number_text(-number), str(-number))
            self.assert_same(read_digits(str(number)), number)
            self.assert_same(read_digits("000" + str(number)), number)

    def test_what_is_no_row_of_digits(self):
        for text in ("0", "0123456789", "9" * 100):
            self.assertIs(is_digits(text), True)
        for text in ("", "-1", "+1", " 1", "1 ", "1_0", "1\n", "a", "\u00b2", "/", ":"):
            self.assertIs(is_digits(text), False)


if __name__ == "__main__":
    unittest.main()
