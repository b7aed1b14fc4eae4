import unittest
from fractions import Fraction

from checks import Case, any_values
from emptypulls.rates import Rate
from emptypulls.trips import Trip

LARGE = 123456789012345678901234567890
TERMS = [(0, 1), (0, -7), (1, 1), (-1, 1), (1, -1), (6, 4), (6, -4), (-6, -4), (7, 3), (100, 10),
         (LARGE, 3), (-LARGE, LARGE + 1), (LARGE * 7, -LARGE * 5), (1, LARGE), (10 ** 29, 10 ** 28)]
WHOLE = [0, 1, -1, 2, 3, -LARGE, LARGE]


def kind_of_integer(value):
    return isinstance(value, int) and not isinstance(value, bool)


def no_operands():
    return [value for value in any_values()
            if not kind_of_integer(value) and not isinstance(value, Rate)]


class MakingTest(Case):
    def check(self, rate, fraction):
        self.assertIs(type(rate), Rate)
        self.assert_same((rate.top, rate.bottom), (fraction.numerator, fraction.denominator))

    def test_lowest_terms_with_a_denominator_above_zero(self):
        for top, bottom in TERMS:
            self.check(Rate(top, bottom), Fraction(top, bottom))

    def test_the_default_bottom_and_names(self):
        self.check(Rate(5), Fraction(5))
        self.check(Rate(top=6, bottom=-4), Fraction(-3, 2))
        self.check(Rate(bottom=-4, top=0), Fraction(0))

    def test_a_wrong_top(self):
        for value in any_values():
            if not kind_of_integer(value):
                self.assert_raises("BadRate", ["top"], Rate, value)
                self.assert_raises("BadRate", ["top"], Rate, value, 0)
                self.assert_raises("BadRate", ["top"], Rate, value, value)

    def test_a_wrong_bottom(self):
        for value in [*any_values(), 0]:
            if not kind_of_integer(value) or value == 0:
                self.assert_raises("BadRate", ["bottom"], Rate, 1, value)
                self.assert_raises("BadRate", ["bottom"], Rate, top=0, bottom=value)

    def test_the_terms_cannot_be_assigned(self):
        rate = Rate(1, 2)
        for name in ("top", "bottom"):
            with self.assertRaises(AttributeError):
                setattr(rate, name, 3)
        self.assertEqual(str(rate), "1/2")

    def test_the_terms_are_properties(self):
        self.assertIsInstance(vars(Rate)["top"], property)
        self.assertIsInstance(vars(Rate)["bottom"], property)

    def test_integers_of_any_size(self):
        huge = 10 ** 5000 + 1
        self.assertEqual(Rate(huge * 3, huge * 2), Rate(3, 2))
        self.assertEqual(str(Rate(-huge, 2)), "-1" + "0" * 4999 + "1/2")
        self.assertEqual(str(Rate(1, huge)), "1/1" + "0" * 4999 + "1")
        self.assertEqual(Rate.read("1" + "0" * 4999 + "1/2"), Rate(huge, 2))


class ArithmeticTest(MakingTest):
    def test_two_rates(self):
        for one in TERMS:
            for other in TERMS:
                left, right = Fraction(*one), Fraction(*other)
                self.check(Rate(*one) + Rate(*other), left + right)
                self.check(Rate(*one) - Rate(*other), left - right)
                self.check(Rate(*one) * Rate(*other), left * right)
                if right:
                    self.check(Rate(*one).over(Rate(*other)), left / right)

    def test_integers_on_either_side(self):
        for one in TERMS:
            for number in WHOLE:
                fraction = Fraction(*one)
                self.check(Rate(*one) + number, fraction + number)
                self.check(number + Rate(*one), number + fraction)
                self.check(Rate(*one) - number, fraction - number)
                self.check(number - Rate(*one), number - fraction)
                self.check(Rate(*one) * number, fraction * number)
                self.check(number * Rate(*one), number * fraction)
                if number:
                    self.check(Rate(*one).over(other=number), fraction / number)

    def test_negative(self):
        for one in TERMS:
            self.check(-Rate(*one), -Fraction(*one))

    def test_over_zero(self):
        for zero in (0, Rate(0), Rate(0, -5)):
            self.assert_raises("BadRate", ["other"], Rate(1, 2).over, zero)
            self.assert_raises("BadRate", ["other"], Rate(0).over, other=zero)

    def test_over_another_kind(self):
        for value in no_operands():
            self.assert_raises("BadRate", ["other"], Rate(1, 2).over, value)

    def test_in_place(self):
        half = Rate(1, 2)
        rate = half
        rate += 1
        self.check(rate, Fraction(3, 2))
        rate -= Rate(1, 4)
        self.check(rate, Fraction(5, 4))
        rate *= Rate(2, 5)
        self.check(rate, Fraction(1, 2))
        number = 3
        number += half
        self.check(number, Fraction(7, 2))
        number = 3
        number -= half
        self.check(number, Fraction(5, 2))
        number = 3
        number *= half
        self.check(number, Fraction(3, 2))
        self.check(half, Fraction(1, 2))

    def test_operands_of_other_kinds_are_refused_on_either_side(self):
        half = Rate(1, 2)
        works = [lambda x: half + x, lambda x: x + half, lambda x: half - x, lambda x: x - half,
                 lambda x: half < x, lambda x: x < half, lambda x: half <= x, lambda x: x <= half,
                 lambda x: half > x, lambda x: x > half, lambda x: half >= x, lambda x: x >= half]
        for value in (True, False, None, "1", "", (), [1], {}, Trip("a", "b")):
            for work in [*works, lambda x: half * x, lambda x: x * half]:
                with self.assertRaises(TypeError):
                    work(value)
        self.check(half, Fraction(1, 2))


class OrderTest(Case):
    def check(self, one, other, left, right):
        self.assert_same((one == other, one != other, one < other, one <= other, one > other, one >= other),
                         (left == right, left != right, left < right, left <= right, left > right,
                          left >= right))

    def test_two_rates(self):
        for one in TERMS:
            for other in TERMS:
                self.check(Rate(*one), Rate(*other), Fraction(*one), Fraction(*other))

    def test_integers_on_either_side(self):
        for one in TERMS:
            for number in [*WHOLE, 10]:
                self.check(Rate(*one), number, Fraction(*one), number)
                self.check(number, Rate(*one), number, Fraction(*one))

    def test_no_bool_equals_a_rate(self):
        for value, truth in ((0, False), (1, True)):
            self.assertFalse(Rate(value) == truth)
            self.assertFalse(truth == Rate(value))
            self.assertTrue(Rate(value) != truth)
            self.assertTrue(truth != Rate(value))
            self.assertNotIn(truth, [Rate(0), Rate(1)])

    def test_no_other_kind_equals_a_rate(self):
        for value in no_operands():
            for rate in (Rate(0), Rate(1), Rate(1, 2)):
                self.assertIs(rate == value, False)
                self.assertIs(value == rate, False)

    def test_truth(self):
        for top, bottom in TERMS:
            self.assertIs(bool(Rate(top, bottom)), top != 0)


class TextTest(Case):
    def test_text(self):
        for rate, text in ((Rate(-7, 2), "-7/2"), (Rate(5), "5"), (Rate(0, -3), "0"), (Rate(-4, 2), "-2"),
                           (Rate(1, LARGE), f"1/{LARGE}"), (Rate(-LARGE, 7), str(Fraction(-LARGE, 7))),
                           (Rate(10 ** 60), "1" + "0" * 60), (Rate(10 ** 60 - 1), "9" * 60),
                           (Rate(-10 ** 121 - 5, 2), "-1" + "0" * 120 + "5/2")):
            self.assert_same(str(rate), text)

    def test_each_text_is_read_again(self):
        for top, bottom in TERMS:
            rate = Rate.read(str(Rate(top, bottom)))
            self.assertIs(type(rate), Rate)
            self.assert_same((rate.top, rate.bottom), (Rate(top, bottom).top, Rate(top, bottom).bottom))
        self.assertEqual(Rate.read(text="-3/2"), Rate(-3, 2))
        for many in range(1, 200, 7):
            self.assertEqual(Rate.read("9" * many), 10 ** many - 1)

    def test_texts_that_str_does_not_write(self):
        for text in ("6/4", "+1", "-0", "1/1", "01", " 1", "", "1 ", "-", "/", "1/", "/2", "1/0", "0/1", "0/2",
                     "0/0", "1/-2", "-1/-2", "--1", "1//2", "1/2/3", "1/02", "-01", "1_0", "1.5", "1e3", "x",
                     "1/+2", "1\n", "1 /2", "1/ 2", "- 1", "5/1", "-6/4", "None", "9" * 100 + "x", "00", "-5/10"):
            self.assert_raises("BadText", [0, 0], Rate.read, text)

    def test_values_that_are_no_texts(self):
        for value in any_values():
            if value != "1":
                self.assert_raises("BadText", [0, 0], Rate.read, value)


class StaticTest(Case):
    def test_of(self):
        half = Rate(1, 2)
        self.assertIs(Rate.of(half), half)
        for number in WHOLE:
            self.assertIs(type(Rate.of(number)), Rate)
            self.assert_same((Rate.of(value=number).top, Rate.of(number).bottom), (number, 1))
        for value in no_operands():
            self.assert_raises("BadRate", ["value"], Rate.of, value)

    def test_total(self):
        for some, text in (([], "0"), ((), "0"), ([1, 2], "3"), ((Rate(1, 2), 1, Rate(-1, 3)), "7/6"),
                           ([Rate(1, 3)] * 3, "1")):
            self.assertIs(type(Rate.total(some)), Rate)
            self.assertEqual(str(Rate.total(some)), text)
        some = [Rate(1, 2), 1]
        Rate.total(some=some)
        self.assertEqual(some, [Rate(1, 2), 1])


if __name__ == "__main__":
    unittest.main()
