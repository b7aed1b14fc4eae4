import random
import unittest
from math import comb

from checks import Case, any_values, same
from driving import all_standings, count_of_choices, price_by_all_choices, safe_stand
from emptypulls.games import Least, Pressing, Priced, Pulling, enough, least_price, price_from
from emptypulls.orders import greatest_rising
from emptypulls.rates import Rate
from emptypulls.stands import Stand, need, place_of, spares, stranding
from emptypulls.tours import Tour
from papers import fraction, is_right_least, is_right_priced
from reference import all_places, best_of, some_tours, stand_at

BOTH = Tour.there_and_back("a", "b", 5)
RING = Tour.around("a", "b", "c")
STAR = Tour.there_and_back("a", "b") + Tour.there_and_back("a", "c")
LATE = Tour.read("a>b 1, c>b 1, b>c 1, a>c 1, c>a 1, b>a 1")
DEAR = Tour.there_and_back("a", "b", 5, 5) + Tour.there_and_back("a", "c", 1, 5)
SIX = Tour.around(*"abcdef")
FREE = RING.priced([0, 0, 0])
BIG = 10 ** 60 - 1
NO_NUMBERS = (-1, 7, True, False, None, "1", (1,), [0], 10 ** 59, Rate(1), Stand({}))


class PriceTest(Case):
    def test_papers_of_small_tours(self):
        for tour in [BOTH, RING, STAR, DEAR, LATE, FREE, *some_tours(41, 30)]:
            for number in range(3):
                for place in all_places(len(tour.yards), number):
                    stand = safe_stand(tour, place)
                    paper = price_from(tour, stand)
                    self.assertTrue(is_right_priced(tour, place, paper), f"{tour}; {stand}")
                    self.assertEqual(paper, price_from(tour=tour, stand=stand))

    def test_no_place_of_another_number_of_spares(self):
        for tour in (DEAR, LATE):
            paper = price_from(tour, need(tour) + Stand({"b": 2}))
            for side in (paper.pulling, paper.pressing):
                self.assertEqual({sum(place) for _, place in side.heights}, {2})

    def test_rates_against_all_choices_of_a_puller(self):
        for tour in [BOTH, RING, STAR, DEAR.priced([2, 1, 9, 3]), FREE, *some_tours(42, 25)]:
            for number in (0, 1, 2):
                if count_of_choices(tour, number) > 6:
                    continue
                rates = []
                for place in all_places(len(tour.yards), number):
                    rate = price_from(tour, safe_stand(tour, place)).rate
                    self.assertEqual(fraction(rate), price_by_all_choices(tour, number, (0, place)), f"{tour} {place}")
                    rates.append(fraction(rate))
                self.assertEqual(fraction(least_price(tour, number).rate), min(rates))

    def test_the_price_is_a_fraction_of_few_places(self):
        for tour in some_tours(43, 30):
            for number in range(3):
                rate = least_price(tour, number).rate
                self.assertLessEqual(rate.bottom, comb(number + len(tour.yards) - 1, number))

    def test_the_price_hangs_on_the_spares_alone(self):
        # The stand of a later beginning has other trailers, but at this place the same spares.
        for tour in (BOTH, DEAR):
            for place in all_places(len(tour.yards), 2):
                stand = safe_stand(tour, place)
                self.assert_same(place_of(tour, spares(tour, stand)), place)
                rate = price_from(tour, stand).rate
                for many in (2, 3):
                    self.assertEqual(price_from(tour * many, stand).rate, rate * many)
        self.assertEqual(price_from(BOTH >> 1, Stand({"b": 3})).rate, price_from(BOTH, Stand({"a": 1, "b": 2})).rate)

    def test_free_trips(self):
        for number in range(4):
            self.assertEqual(least_price(FREE, number).rate, 0)
        self.assertEqual(price_from(FREE, need(FREE)).rate, 0)

    def test_a_stand_that_is_not_safe(self):
        for tour in [BOTH, RING, STAR, LATE, *some_tours(44, 10)]:
            for number in range(4):
                for numbers in all_places(len(tour.yards), number):
                    stand = stand_at(tour, numbers)
                    loads = stranding(tour, stand)
                    if loads is None:
                        self.assertIs(type(price_from(tour, stand)), Priced)
                    else:
                        self.assert_raises("Unsafe", [loads], price_from, tour, stand)

    def test_too_many_places(self):
        just = need(BOTH) + Stand({"a": 199})
        self.assertEqual(price_from(BOTH, just).rate, 5)
        self.assert_raises("TooMany", ["places", 400], price_from, BOTH, just + Stand({"b": 1}))
        self.assert_raises("TooMany", ["places", 400], price_from, BOTH, Stand({"a": BIG, "b": BIG}))
        self.assert_raises("TooMany", ["places", 400], price_from, SIX, Stand({"a": BIG, "b": BIG}))
        # 66 pairs of a place and 6 trips with 65 spares.
        six = BOTH * 3
        self.assertIs(type(price_from(six, need(six) + Stand({"b": 65}))), Priced)
        self.assert_raises("TooMany", ["places", 400], price_from, six, need(six) + Stand({"b": 66}))
        self.assert_raises("Unsafe", [(True,)], price_from, BOTH, Stand({"b": BIG}))

    def test_wrong_values_in_their_order(self):
        for value in any_values():
            if not isinstance(value, Tour):
                self.assert_raises("BadTour", ["tour"], price_from, value, None)
            if not isinstance(value, Stand):
                self.assert_raises("BadStand", ["stand"], price_from, BOTH, value)
        self.assert_raises("NoYard", ["c"], price_from, BOTH, Stand({"d": 1, "c": BIG}))


class LeastTest(Case):
    def test_papers_of_small_tours(self):
        for tour in [BOTH, RING, STAR, DEAR, LATE, FREE, *some_tours(45, 40)]:
            for number in range(4):
                if len(tour) * comb(number + len(tour.yards) - 1, number) > 120:
                    continue
                paper = least_price(tour, number)
                self.assertTrue(is_right_least(tour, number, paper), f"{tour} {number}")
                self.assertEqual({place for _, place in paper.pressing.heights}, set(all_places(len(tour.yards), number)))
                self.assertEqual(paper, least_price(number=number, tour=tour))

    def test_the_start_is_the_first_place_with_the_least_price(self):
        for tour in [BOTH, STAR, DEAR, LATE, *some_tours(46, 15)]:
            for number in range(3):
                rates = [(price_from(tour, safe_stand(tour, place)).rate, place)
                         for place in all_places(len(tour.yards), number)]
                paper = least_price(tour, number)
                self.assertTrue(all(rate >= paper.rate for rate, _ in rates))
                self.assert_same(paper.start, [place for rate, place in rates if rate == paper.rate][0])

    def test_what_the_document_tells_of_least_prices(self):
        for tour in [BOTH, RING, STAR, LATE, *some_tours(47, 25)]:
            rates = [least_price(tour, number).rate for number in range(4) if self.is_small(tour, number)]
            self.assertEqual(rates[0], tour.whole_price)
            self.assertTrue(all(one >= other >= best_of(tour)[0] for one, other in zip(rates, rates[1:])))

    def is_small(self, tour, number):
        return len(tour) * comb(number + len(tour.yards) - 1, number) <= 400

    def test_enough_spares_for_the_greatest_rising_sum(self):
        for tour in (BOTH, Tour.there_and_back("a", "b", 0, 7), BOTH | BOTH):
            many = len(tour) * len(tour.yards) ** 2
            paper = price_from(tour, need(tour) + Stand({"a": many}))
            self.assertEqual(paper.rate, greatest_rising(tour).number)

    def test_too_many_places(self):
        # 6 trips and 56 places with 3 spares, 126 places with 4.
        self.assertIs(type(least_price(SIX, 3)), Least)
        self.assert_raises("TooMany", ["places", 400], least_price, SIX, 4)
        for number in range(7):
            self.assertEqual(len(all_standings(BOTH, number)), len(least_price(BOTH, number).pressing.heights))

    def test_wrong_values_in_their_order(self):
        for value in any_values():
            if not isinstance(value, Tour):
                self.assert_raises("BadTour", ["tour"], least_price, value, 7)
                self.assert_raises("BadTour", ["tour"], enough, value, 7)
        for value in [*NO_NUMBERS, *any_values()]:
            if type(value) is not int or not 0 <= value <= 6:
                self.assert_raises("BadCount", [value], least_price, BOTH, value)
                self.assert_raises("BadCount", [value], enough, BOTH, value)


class EnoughTest(Case):
    def test_each_most(self):
        for tour in [BOTH, RING, STAR, DEAR, FREE, *some_tours(48, 8, "abc", 1)]:
            bound = best_of(tour)[0]
            rates = [least_price(tour, number).rate for number in range(7) if self.is_small(tour, number)]
            for most in range(len(rates)):
                found = [number for number in range(most + 1) if rates[number] == bound]
                self.assert_same(enough(tour, most), found[0] if found else None)

    def is_small(self, tour, number):
        return len(tour) * comb(number + len(tour.yards) - 1, number) <= 120

    def test_too_many_only_when_a_number_is_come_to(self):
        self.assert_same(enough(SIX, 6), 1)
        far = Tour.there_and_back("a", "b") + Tour.there_and_back("c", "d") + Tour.there_and_back("e", "f")
        self.assertEqual(least_price(far, 3).rate, greatest_rising(far).number)
        self.assert_same((enough(far, 6), enough(far, 2)), (3, None))
        wide = far + ~far
        self.assert_raises("TooMany", ["places", 400], least_price, wide, 3)
        self.assert_same(enough(wide, 2), None)
        for most in (3, 6):
            self.assert_raises("TooMany", ["places", 400], enough, tour=wide, most=most)

    def test_zero(self):
        self.assert_same((enough(BOTH, 0), enough(FREE, 0), enough(FREE, 6)), (None, 0, 0))


class PaperTest(Case):
    def test_papers_of_any_values(self):
        for made, many in ((Pulling, 2), (Pressing, 2), (Priced, 3), (Least, 4)):
            names = {2: ["rate", "heights"], 3: ["rate", "pulling", "pressing"],
                     4: ["rate", "start", "pulling", "pressing"]}[many]
            for value in any_values():
                for at, name in enumerate(names):
                    parts = [0] * many
                    parts[at] = value
                    paper = made(*parts)
                    self.assertTrue(same(getattr(paper, name), value))
                    self.assertEqual(paper, made(**dict(zip(names, parts))))
                    self.assertIs(paper == made(*([1] * many)), False)

    def test_another_class_or_kind(self):
        self.assertNotEqual(Pulling(1, {}), Pressing(1, {}))
        self.assertNotEqual(Pulling(1, {}), Pulling(True, {}))
        self.assertNotEqual(Priced(1, (), 2), Priced(1, [], 2))
        self.assertEqual(Least(Rate(1), (1,), Pulling(1, {}), 0), Least(Rate(1), (1,), Pulling(1, {}), 0))
        self.assertNotEqual(Least(Rate(1), (1,), Pulling(1, {}), 0), Least(Rate(1), (1,), Pulling(1, {1: 1}), 0))

    def test_what_is_changed_later(self):
        heights = {(0, (0, 1)): 3}
        side = Pulling(Rate(1), heights)
        whole = Priced(Rate(1), side, [side])
        heights.clear()
        self.assertEqual(side.heights, {(0, (0, 1)): 3})
        side.heights.clear()
        self.assertEqual((whole.pulling.heights, whole.pressing[0].heights), ({(0, (0, 1)): 3},) * 2)

    def test_what_was_returned_belongs_to_the_caller(self):
        stand = need(DEAR) + Stand({"a": 1})
        for work in (lambda: price_from(DEAR, stand), lambda: least_price(DEAR, 1)):
            before, again = work(), work()
            again.pulling.heights.clear()
            again.pressing.heights[None] = 1
            self.assertEqual(work(), before)
            self.assertNotEqual(again, before)


class RandomTest(Case):
    def test_larger_tours(self):
        chance = random.Random(49)
        for tour in some_tours(50, 12, "abcd", 3):
            number = max(n for n in range(7) if len(tour) * comb(n + len(tour.yards) - 1, n) <= 400)
            paper = least_price(tour, number)
            self.assertTrue(is_right_least(tour, number, paper))
            place = chance.choice(all_places(len(tour.yards), number))
            self.assertTrue(is_right_priced(tour, place, price_from(tour, safe_stand(tour, place))))


if __name__ == "__main__":
    unittest.main()
