import random
import unittest

from checks import Case, any_values
from driving import rule_step, safe_stand, some_rules
from emptypulls.compare import Cheap, Dearer, never_dearer
from emptypulls.games import Least, Pressing, Priced, Pulling, least_price, price_from
from emptypulls.known import Known, Rings, endless_price, known_price
from emptypulls.lookers import Looker
from emptypulls.orders import Rising, best_orders, greatest_rising
from emptypulls.rates import Rate
from emptypulls.rules import Always, By, Guarded, Levels, Never, Rule, Worst, stranded, worst
from emptypulls.stands import Stand, need, stranding
from emptypulls.tours import Tour
from papers import (is_right_compared, is_right_known, is_right_least, is_right_priced, is_right_rings,
                    is_right_rising, is_right_worst)
from reference import all_places, some_tours, stand_at
from spoiling import parts_of, spoilt_papers

BOTH = Tour.there_and_back("a", "b", 5)
RING = Tour.around("a", "b", "c")
STAR = Tour.there_and_back("a", "b") + Tour.there_and_back("a", "c")
SIX = Tour.around(*"abcdef")
TWO = Stand({"a": 1, "b": 1})
KEEP = Levels({"a": 1, "b": 1})
LOOK = Looker(BOTH)
BIG = 10 ** 59
F, T = False, True


def raising(moment):
    raise AssertionError("asked")


def behind_both(state, load):
    one = rule_step(BOTH, KEEP, state[:3], load)[2]
    return (*one, *rule_step(BOTH, Always(), (state[0], *state[3:]), load)[2][1:])


class LookingTest(Case):
    def look(self, paper, seen, told, chance):
        """That the paper is right, and that what is seen of spoilt ones is what is told of them."""
        self.assertIs(seen(paper), True)
        right = 0
        for other in spoilt_papers(paper, chance):
            answer = seen(other)
            self.assertIs(answer, told(other), f"{type(other).__name__} {parts_of(other)}")
            right += answer
        for value in any_values():
            self.assertIs(seen(value), False)
        return right

    def test_risings(self):
        chance = random.Random(91)
        for tour in [BOTH, RING, STAR, *some_tours(92, 10, "abcd")]:
            look = Looker(tour)
            for order in best_orders(tour):
                paper = Rising(greatest_rising(tour).number, order, greatest_rising(tour).marks)
                self.look(paper, look.risings, lambda paper: is_right_rising(tour, paper), chance)

    def test_knowns(self):
        chance = random.Random(93)
        for tour in [BOTH, RING, STAR, *some_tours(94, 6)]:
            look = Looker(tour)
            for number in range(3):
                loads = [chance.random() < 0.4 for _ in range(len(tour) * chance.randint(1, 2))]
                self.look(known_price(tour, loads, number), lambda paper: look.knowns(paper, loads, number),
                          lambda paper: is_right_known(tour, loads, number, paper), chance)

    def test_endless(self):
        chance = random.Random(95)
        for tour in [BOTH, RING, STAR, *some_tours(96, 15, "abcd")]:
            look = Looker(tour)
            loads = tuple(chance.random() < 0.3 for _ in range(len(tour) * chance.randint(1, 3)))
            self.look(endless_price(tour, loads), lambda paper: look.endless(paper, loads),
                      lambda paper: is_right_rings(tour, loads, paper), chance)

    def test_prices(self):
        chance = random.Random(97)
        for tour in [BOTH, RING, STAR, *some_tours(98, 5)]:
            look = Looker(tour)
            for number in range(3):
                place = chance.choice(all_places(len(tour.yards), number))
                stand = safe_stand(tour, place)
                self.look(price_from(tour, stand), lambda paper: look.prices(paper, stand),
                          lambda paper: is_right_priced(tour, place, paper), chance)

    def test_leasts(self):
        chance = random.Random(99)
        for tour in [BOTH, RING, STAR, *some_tours(100, 5)]:
            look = Looker(tour)
            for number in range(3):
                self.look(least_price(tour, number), lambda paper: look.leasts(paper, number),
                          lambda paper: is_right_least(tour, number, paper), chance)

    def test_worsts(self):
        chance = random.Random(101)
        for number, tour in enumerate([BOTH, RING, *some_tours(102, 4)]):
            look = Looker(tour)
            stand = need(tour) + Stand({tour.yards[0]: 1})
            for rule in some_rules(tour, number):
                if stranded(tour, rule, stand) is None:
                    self.look(worst(tour, rule, stand), lambda paper: look.worsts(paper, rule, stand),
                              lambda paper: is_right_worst(tour, rule, stand, paper), chance)

    def test_cheaps(self):
        chance = random.Random(103)
        for number, tour in enumerate([BOTH, RING, *some_tours(104, 3)]):
            look = Looker(tour)
            stand = need(tour) + Stand({tour.yards[0]: 1})
            rules = [rule for rule in some_rules(tour, number) if stranded(tour, rule, stand) is None]
            for one in rules:
                other = chance.choice(rules)
                self.look(never_dearer(tour, one, other, stand), lambda paper: look.cheaps(paper, one, other, stand),
                          lambda paper: is_right_compared(tour, one, other, stand, paper), chance)

    def test_strandings(self):
        for tour in (BOTH, RING, STAR):
            look = Looker(tour)
            for number in range(4):
                for numbers in all_places(len(tour.yards), number):
                    stand = stand_at(tour, numbers)
                    told = stranding(tour, stand)
                    self.assertIs(look.strandings(told, stand), True)
                    for value in [*any_values(), (T, T), (T,), [T], (1,), (F,), (T, 1), [T, T], (T,) * 13]:
                        self.assertIs(look.strandings(value, stand), type(value) is type(told) and value == told and
                                      all(load is True for load in value or ()))


class OtherRightPapersTest(Case):
    """Papers that are right, though they are not those that the functions return."""

    def test_higher_marks(self):
        marks = {(): 0, ("a",): 0, ("b",): 0, ("a", "b"): 5}
        self.assertIs(LOOK.risings(Rising(5, ("a", "b"), marks)), True)
        self.assertIs(LOOK.risings(Rising(5, ("a", "b"), {**marks, ("a",): -1})), False)
        self.assertIs(LOOK.risings(Rising(5, ("a", "b"), {**marks, ("b",): 4})), True)
        self.assertIs(LOOK.risings(Rising(5, ("a", "b"), {**marks, ("b",): 5})), False)
        self.assertIs(LOOK.risings(Rising(6, ("a", "b"), {**marks, ("a", "b"): 6})), False)
        self.assertIs(LOOK.risings(Rising(5, ["a", "b"], marks)), False)

    def test_another_start_and_longer_words(self):
        paper = known_price(RING, [F] * 3, 1)
        for many in (1, 2, 100):
            longer = Known(paper.rate, paper.start, paper.words * many, paper.heights)
            self.assertIs(Looker(RING).knowns(longer, [F] * 3, 1), True)
        too_long = Known(paper.rate, paper.start, paper.words * (1002 // len(paper.words)), paper.heights)
        self.assertIs(len(too_long.words) > 1000, True)
        self.assertIs(Looker(RING).knowns(too_long, [F] * 3, 1), False)
        for tour, many, is_right in ((BOTH, 500, True), (BOTH, 501, False), (BOTH, 0, False),
                                     (RING + BOTH + BOTH, 142, True), (RING + BOTH + BOTH, 143, False)):
            loads = [F] * len(tour)
            told = known_price(tour, loads, 0)
            self.assertEqual(len(told.words), len(tour))
            self.assertIs(Looker(tour).knowns(Known(told.rate, told.start, told.words * many, told.heights), loads, 0),
                          is_right)
        far = {key: height + BIG for key, height in paper.heights.items()}
        self.assertIs(Looker(RING).knowns(Known(paper.rate, paper.start, paper.words, far), [F] * 3, 1), True)

    def test_a_lot_that_has_a_trip_twice(self):
        paper, look = endless_price(BOTH.priced([0, 0]), [F, F]), Looker(BOTH.priced([0, 0]))
        for left, is_right in (((), True), ((0, 1), True), ((0, 0, 1, 1), False), ((1, 0), False), ((0,), False)):
            self.assertIs(look.endless(Rings(paper.rate, left, paper.heights), [F, F]), is_right)

    def test_heights_that_are_moved_far(self):
        for change in (BIG, -BIG):
            rings = endless_price(STAR, [F] * 4)
            far = {yard: height + change for yard, height in rings.heights.items()}
            self.assertIs(Looker(STAR).endless(Rings(rings.rate, rings.left, far), [F] * 4), True)
            paper = price_from(BOTH, TWO)
            sides = [type(side)(side.rate, {key: height + change for key, height in side.heights.items()})
                     for side in (paper.pulling, paper.pressing)]
            self.assertIs(LOOK.prices(Priced(paper.rate, *sides), TWO), True)
            told = worst(BOTH, KEEP, TWO)
            far = {key: height + change for key, height in told.heights.items()}
            self.assertIs(LOOK.worsts(Worst(told.rate, told.row, told.ring, far), KEEP, TWO), True)

    def test_a_start_that_is_not_the_first_one(self):
        rates = {place: price_from(STAR, safe_stand(STAR, place)).rate for place in all_places(3, 1)}
        paper = least_price(STAR, 1)
        for place, rate in rates.items():
            pulling = price_from(STAR, safe_stand(STAR, place)).pulling
            other = Least(paper.rate, place, pulling, paper.pressing)
            self.assertIs(Looker(STAR).leasts(other, 1), rate == paper.rate)

    def test_standings_of_another_number_of_spares(self):
        paper, more = price_from(BOTH, TWO), price_from(BOTH, Stand({"a": 1, "b": 2}))
        for at in (1, 2):
            parts, others = parts_of(paper), parts_of(more)
            parts[at] = type(parts[at])(paper.rate, {**others[at].heights, **parts[at].heights})
            self.assertIs(LOOK.prices(Priced(*parts), TWO), False)
        self.assertIs(LOOK.prices(more, TWO), False)
        self.assertIs(LOOK.prices(paper, TWO + Stand({"b": 1})), False)

    def test_a_pulling_and_a_pressing_that_do_not_meet(self):
        # From no standing nothing is told, and at a rate of 6 every puller holds.
        held = Pulling(Rate(6), {(0, (0, 1)): 0, (1, (0, 1)): 6, (0, (1, 0)): 0, (1, (1, 0)): 6})
        paper = price_from(BOTH, TWO)
        self.assertIs(LOOK.prices(Priced(paper.rate, held, paper.pressing), TWO), False)
        self.assertIs(LOOK.prices(Priced(Rate(6), held, paper.pressing), TWO), False)
        self.assertIs(LOOK.prices(Priced(paper.rate, Pulling(paper.rate, {}), paper.pressing), TWO), False)
        self.assertIs(LOOK.prices(Priced(paper.rate, paper.pulling, Pressing(paper.rate, {})), TWO), False)

    def test_stands_that_are_not_safe(self):
        for value in [*any_values(), price_from(BOTH, TWO)]:
            self.assertIs(LOOK.prices(value, Stand({"b": 2})), False)

    def test_no_too_many_for_a_looker(self):
        many = need(BOTH) + Stand({"a": BIG})
        self.assertIs(LOOK.prices(price_from(BOTH, TWO), many), False)
        # Without prices loads alone show what these standings cost, however many spares there are.
        free = BOTH.priced([0, 0])
        sides = [made(Rate(0), {(0, (BIG, 0)): 3, (1, (BIG, 0)): 3}) for made in (Pulling, Pressing)]
        self.assertIs(Looker(free).prices(Priced(Rate(0), *sides), many), True)
        self.assert_raises("TooMany", ["places", 400], price_from, free, many)
        self.assertIs(Looker(SIX).leasts(least_price(SIX, 1), 6), False)
        self.assertIs(Looker(SIX).knowns(known_price(SIX, [F] * 6, 1), [F] * 48, 6), False)
        more = Stand({"a": 1, "b": 3000})
        self.assertIs(LOOK.worsts(worst(BOTH, Guarded(Never()), TWO), Guarded(Never()), more), False)
        self.assertIs(LOOK.cheaps(Cheap({}), Always(), Guarded(Never()), more), False)

    def test_a_large_right_paper(self):
        heights = {(at, place): 0 for at in range(6) for place in all_places(6, 4)}
        free = SIX.priced([0] * 6)
        start = all_places(6, 4)[0]
        side = [made(Rate(0), heights) for made in (Pulling, Pressing)]
        self.assertIs(Looker(free).leasts(Least(Rate(0), start, *side), 4), True)
        self.assert_raises("TooMany", ["places", 400], least_price, free, 4)

    def test_states_that_are_not_come_to(self):
        paper = worst(BOTH, KEEP, TWO)
        more = worst(BOTH, KEEP, Stand({"a": 2, "b": 2}))
        self.assertEqual(paper.rate, more.rate)
        both = Worst(paper.rate, paper.row, paper.ring, {**more.heights, **paper.heights})
        self.assertIs(LOOK.worsts(both, KEEP, TWO), True)
        self.assertIs(LOOK.worsts(more, KEEP, TWO), False)
        marks = never_dearer(BOTH, KEEP, Always(), TWO).marks
        other = never_dearer(BOTH, KEEP, Always(), Stand({"a": 2, "b": 2})).marks
        self.assertEqual(max(other.values()), 0)
        for change, is_right in ((0, True), (-BIG, True), (1, False), (BIG, False)):
            both = {**{key: mark + change for key, mark in other.items()}, **marks}
            self.assertIs(LOOK.cheaps(Cheap(both), KEEP, Always(), TWO), is_right)

    def test_keys_that_are_no_states(self):
        """At the index 0 the stands begun and now are the same, though others would lead to states, too."""
        heights, marks = worst(BOTH, KEEP, TWO).heights, never_dearer(BOTH, KEEP, Always(), TWO).marks
        for begun, is_right in (((1, 1), True), ((2, 0), False), ((0, 2), False)):
            paper = worst(BOTH, KEEP, TWO)
            more = self.with_behind((0, begun, (1, 1)), heights, lambda state, load: rule_step(BOTH, KEEP, state, load)[2])
            told = Worst(paper.rate, paper.row, paper.ring, {**{key: BIG for key in more}, **paper.heights})
            # Behind the added states come only those whose heights are far below theirs.
            told.heights.update({key: BIG - 10 * key[0] for key in more if key not in heights})
            self.assertIs(LOOK.worsts(told, KEEP, TWO), is_right)
            for key in ((0, begun, (1, 1), (1, 1), (1, 1)), (0, (1, 1), (1, 1), begun, (1, 1))):
                more = self.with_behind(key, marks, behind_both)
                told = Cheap({**{key: -BIG + 200 * key[0] for key in more if key not in marks}, **marks})
                self.assertIs(LOOK.cheaps(told, KEEP, Always(), TWO), is_right)

    def with_behind(self, first, known, behind):
        """A state and all that come behind it and are not known yet."""
        found = [first]
        for state in found:
            for load in (F, T):
                further = behind(state, load)
                if further not in found and further not in known:
                    found.append(further)
        return found

    def test_longer_rows(self):
        paper = worst(BOTH, KEEP, TWO)
        for row, ring, is_right in ((2, 2, True), (1, 2000, True), (1, 2001, False), (2000, 1, True), (2001, 1, False)):
            self.assertEqual((len(paper.row), len(paper.ring)), (2, 2))
            told = Worst(paper.rate, paper.row + paper.ring * (row - 1), paper.ring * ring, paper.heights)
            self.assertIs(LOOK.worsts(told, KEEP, TWO), is_right)
        self.assertIs(LOOK.cheaps(Dearer((F,)), Always(), KEEP, TWO), True)
        self.assertIs(LOOK.cheaps(Dearer((F, T, T, F)), Always(), KEEP, TWO), True)
        self.assertIs(LOOK.cheaps(Dearer((T, T, T)), Always(), KEEP, TWO), False)
        self.assertIs(LOOK.cheaps(Dearer(()), Always(), KEEP, TWO), False)
        self.assertIs(LOOK.cheaps(Dearer((F,) * 39999), Always(), KEEP, TWO), True)

    def test_rules_that_strand(self):
        paper = worst(BOTH, KEEP, TWO)
        self.assertIs(LOOK.worsts(paper, Never(), TWO), False)
        self.assertIs(LOOK.cheaps(Dearer((T, F, T)), KEEP, Never(), TWO), False)
        self.assertIs(LOOK.cheaps(Cheap({}), Never(), Never(), TWO), False)


class ErrorTest(Case):
    def test_what_is_no_tour(self):
        for value in any_values():
            if not isinstance(value, Tour):
                self.assert_raises("BadTour", ["tour"], Looker, value)
                self.assert_raises("BadTour", ["tour"], Looker, tour=value)

    def test_stands(self):
        works = [lambda stand: LOOK.strandings(None, stand), lambda stand: LOOK.prices(None, stand),
                 lambda stand: LOOK.worsts(None, By(raising), stand),
                 lambda stand: LOOK.cheaps(None, By(raising), Always(), stand)]
        for work in works:
            for value in any_values():
                if not isinstance(value, Stand):
                    self.assert_raises("BadStand", ["stand"], work, value)
            self.assert_raises("NoYard", ["c"], work, Stand({"d": 1, "c": 1, "a": 1}))

    def test_rules(self):
        for value in any_values():
            if not isinstance(value, Rule):
                self.assert_raises("BadRule", ["rule"], LOOK.worsts, None, value, None)
                self.assert_raises("BadRule", ["one"], LOOK.cheaps, None, value, None, None)
                self.assert_raises("BadRule", ["other"], LOOK.cheaps, None, Always(), value, None)

    def test_loads_and_numbers(self):
        for value in any_values():
            if type(value) is not int or not 0 <= value <= 6:
                self.assert_raises("BadCount", [value], LOOK.leasts, None, value)
                self.assert_raises("BadCount", [value], LOOK.knowns, None, [F, T], value)
            if not isinstance(value, (list, tuple)):
                self.assert_raises("BadLoads", [None], LOOK.knowns, None, value, 7)
                self.assert_raises("BadLoads", [None], LOOK.endless, None, value)
            if not isinstance(value, bool):
                self.assert_raises("BadLoads", [1], LOOK.endless, None, [T, value])
                self.assert_raises("BadLoads", [1], LOOK.knowns, None, (T, value), None)
        for loads in ([], [T], [T] * 3, [T] * 50):
            self.assert_raises("BadLoads", [None], LOOK.endless, None, loads)

    def test_by_the_names_of_the_parameters(self):
        self.assertIs(LOOK.strandings(paper=None, stand=TWO), True)
        self.assertIs(LOOK.risings(paper=greatest_rising(BOTH)), True)
        self.assertIs(LOOK.knowns(paper=known_price(BOTH, [F, F], 1), loads=[F, F], number=1), True)
        self.assertIs(LOOK.endless(paper=endless_price(BOTH, [F, F]), loads=(F, F)), True)
        self.assertIs(LOOK.prices(paper=price_from(BOTH, TWO), stand=TWO), True)
        self.assertIs(LOOK.leasts(paper=least_price(BOTH, 1), number=1), True)
        self.assertIs(LOOK.worsts(paper=worst(BOTH, KEEP, TWO), rule=KEEP, stand=TWO), True)
        paper = never_dearer(BOTH, KEEP, Always(), TWO)
        self.assertIs(LOOK.cheaps(paper=paper, one=KEEP, other=Always(), stand=TWO), True)
        self.assertIs(LOOK.cheaps(paper, Always(), KEEP, TWO), False)

    def test_papers_of_another_tour(self):
        look = Looker(BOTH.priced([5, 2]))
        self.assertIs(look.prices(price_from(BOTH, TWO), TWO), True)
        self.assertIs(look.prices(price_from(BOTH, Stand({"a": 1})), Stand({"a": 1})), False)
        self.assertIs(look.worsts(worst(BOTH, Always(), TWO), Always(), TWO), False)


if __name__ == "__main__":
    unittest.main()
