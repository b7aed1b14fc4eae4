import random
import unittest
from fractions import Fraction
from itertools import product

from checks import Case, any_values, same
from driving import dearest_mean, first_state, rule_states, rule_step, some_rules
from emptypulls.rates import Rate
from emptypulls.rules import (Always, Both, By, Either, Fullest, Guarded, Levels, Moment, Never, Not, Rule, Worst,
                              driven_by, stranded, worst)
from emptypulls.stands import Stand, need
from emptypulls.tours import Tour
from papers import fraction, is_right_worst
from reference import all_places, need_at, some_tours, stand_at

BOTH = Tour.there_and_back("a", "b", 5)
RING = Tour.around("a", "b", "c")
STAR = Tour.there_and_back("a", "b") + Tour.there_and_back("a", "c")
TWO = Stand({"a": 1, "b": 1})
KEEP = Levels({"a": 1, "b": 1})
MOMENT = Moment(BOTH, 0, TWO, TWO)
BIG = 10 ** 60 - 1
F, T = False, True


def no_rules():
    return [value for value in any_values() if not isinstance(value, Rule)]


def moments(tour, most):
    """Moments at each index, with stands that are not safe, too."""
    stands = [stand_at(tour, numbers) for number in range(most + 1) for numbers in all_places(len(tour.yards), number)]
    for index in range(len(tour)):
        for begun in stands:
            for now in stands:
                if begun.whole == now.whole and (index > 0 or begun == now):
                    yield Moment(tour, index, begun, now)


class Told(Exception):
    pass


def raising(moment):
    raise Told("work")


class AskedTest(Case):
    def look(self, rule, told, tours=(BOTH, RING, STAR)):
        for tour in tours:
            for moment in moments(tour, 2):
                self.assert_same(rule(moment), told(moment, tour[moment.index]))

    def test_always_and_never(self):
        self.look(Always(), lambda moment, trip: True)
        self.look(Never(), lambda moment, trip: False)

    def test_fullest(self):
        def told(moment, trip):
            numbers = dict(zip(moment.tour.yards, need_at(moment.tour)))
            order = sorted(moment.tour.yards, key=lambda yard: (numbers[yard] - moment.begun[yard], yard))
            return order.index(trip.start) < order.index(trip.goal)

        self.look(Fullest(), told, [BOTH, RING, STAR, *some_tours(51, 5)])

    def test_levels(self):
        for levels in ({}, {"a": 1}, {"a": 2, "b": 1, "z": 9}, {"b": BIG}, {"c": 0}):
            self.look(Levels(levels), lambda moment, trip: moment.now[trip.goal] < levels.get(trip.goal, 0))

    def test_by(self):
        for work in (lambda moment: moment.now["a"] > 1, lambda moment: moment.index == 1, lambda moment: True):
            self.look(By(work), lambda moment, trip: work(moment))
        self.look(By(work=lambda moment: isinstance(moment, Moment)), lambda moment, trip: True)

    def test_guarded(self):
        for rule in (Always(), Never(), Fullest(), KEEP):
            def told(moment, trip):
                numbers = dict(zip(moment.tour.yards, need_at(moment.tour, moment.index)))
                return rule(moment) or moment.now[trip.goal] <= numbers[trip.goal]

            self.look(Guarded(rule), told)
            self.look(Guarded(rule=rule), told)

    def test_what_is_made_of_rules(self):
        for one, other in product([Always(), Never(), KEEP, Fullest()], repeat=2):
            for both in (one & other, Both(one, other), Both(other=other, one=one)):
                self.look(both, lambda moment, trip: one(moment) and other(moment), (BOTH,))
            for either in (one | other, Either(one, other), Either(other=other, one=one)):
                self.look(either, lambda moment, trip: one(moment) or other(moment), (BOTH,))
            for no in (~one, Not(one), Not(one=one)):
                self.look(no, lambda moment, trip: not one(moment), (BOTH,))

    def test_the_second_one_is_asked_only_if_the_first_one_does_not_settle_it(self):
        self.assertIs((Never() & By(raising))(MOMENT), False)
        self.assertIs((Always() | By(raising))(MOMENT), True)
        for rule in (Always() & By(raising), Never() | By(raising), By(raising) & Never(), By(raising) | Always(),
                     ~By(raising), Guarded(By(raising))):
            with self.assertRaises(Told):
                rule(MOMENT)
        asked = []

        def asks(name, answer):
            return By(lambda moment: asked.append(name) or answer)

        (asks(1, False) & asks(2, True) | asks(3, True))(MOMENT)
        self.assertEqual(asked, [1, 3])

    def test_work_that_returns_something_else(self):
        for value in any_values():
            if not isinstance(value, bool):
                for rule in (By(lambda moment: value), Guarded(By(lambda moment: value)), ~By(lambda moment: value),
                             Always() & By(lambda moment: value), By(lambda moment: value) | Always()):
                    self.assert_raises("BadRule", ["answer"], rule, MOMENT)
                self.assert_raises("BadRule", ["answer"], worst, BOTH, By(lambda moment: value), TWO)
        with self.assertRaises(Told):
            stranded(BOTH, By(raising), TWO)

    def test_what_is_no_moment(self):
        rules = [Always(), Never(), Fullest(), KEEP, By(raising), Guarded(By(raising)), Both(By(raising), Never()),
                 Either(By(raising), Never()), Not(By(raising))]
        for value in [*any_values(), BOTH, TWO, Always(), (BOTH, 0, TWO, TWO)]:
            if not isinstance(value, Moment):
                for rule in rules:
                    self.assert_raises("BadRule", ["moment"], rule, value)
                    self.assert_raises("BadRule", ["moment"], rule, moment=value)


class MakingTest(Case):
    def test_what_are_no_levels(self):
        for value in any_values():
            if same(value, {}) or same(value, {"a": 1}):
                self.assertEqual(Levels(value), Levels(levels=value))
            else:
                self.assert_raises("BadRule", ["levels"], Levels, value)
        for levels in ({"a": True}, {"a": -1}, {"A": 0}, {"": 0}, {1: 1}, {"a": 1, "b": None}, {"abcdefghi": 0}):
            self.assert_raises("BadRule", ["levels"], Levels, levels)

    def test_levels_that_are_changed_later(self):
        levels = {"b": 1}
        rule = Levels(levels)
        levels["b"] = 3
        self.assertIs(rule(Moment(BOTH, 0, TWO, TWO)), False)
        self.assertEqual(rule, Levels({"b": 1}))

    def test_what_is_no_rule(self):
        for value in [*no_rules(), Rule, Always, lambda moment: True]:
            self.assert_raises("BadRule", ["rule"], Guarded, value)
            self.assert_raises("BadRule", ["one"], Not, value)
            for made in (Both, Either):
                self.assert_raises("BadRule", ["one"], made, value, value)
                self.assert_raises("BadRule", ["one"], made, value, Always())
                self.assert_raises("BadRule", ["other"], made, Always(), value)
            self.assert_raises("BadRule", ["other"], lambda: Always() & value)
            self.assert_raises("BadRule", ["other"], lambda: KEEP | value)

    def test_in_place(self):
        one = same_one = KEEP
        one &= Never()
        self.assertEqual(one, Both(KEEP, Never()))
        one |= Always()
        self.assertEqual(one, Either(Both(KEEP, Never()), Always()))
        self.assertEqual(same_one, KEEP)
        with self.assertRaises(ValueError):
            one |= None
        self.assertEqual(one, Either(Both(KEEP, Never()), Always()))

    def test_equality(self):
        def work(moment):
            return True

        def made():
            return [Always(), Never(), Fullest(), Levels({}), Levels({"a": 0}), Levels({"a": 1, "b": 2}), By(work),
                    By(raising), Guarded(Always()), Guarded(Never()), Both(Always(), Never()), Both(Never(), Always()),
                    Either(Always(), Never()), Not(Always()), Not(Not(Always())), Guarded(Levels({"a": 1}))]

        for at, one in enumerate(made()):
            for number, other in enumerate(made()):
                self.assertIs(one == other, at == number)
                self.assertIs(one != other, at != number)
            for value in no_rules():
                self.assertIs(one == value, False)
        self.assertEqual(Levels({"b": 2, "a": 1}), Levels({"a": 1, "b": 2}))
        for rule in made():
            self.assertIsInstance(rule, Rule)


class DrivenTest(Case):
    def words_of(self, tour, rule, stand, loads):
        """The words one by one, or the number of loads until one is left standing."""
        state, words = first_state(tour, stand), []
        for at, load in enumerate(loads):
            step = rule_step(tour, rule, state, load)
            if step is None:
                return at
            state = step[2]
            words.append(step[3])
        return tuple(words)

    def test_against_steps_one_by_one(self):
        chance = random.Random(52)
        for number, tour in enumerate([BOTH, RING, STAR, *some_tours(53, 15)]):
            for rule in some_rules(tour, number):
                stand = stand_at(tour, [chance.randint(0, 2) for _ in tour.yards])
                loads = [chance.random() < 0.5 for _ in range(chance.randint(0, 20))]
                words = self.words_of(tour, rule, stand, loads)
                if isinstance(words, tuple):
                    self.assert_same(driven_by(tour, rule, stand, loads), words)
                    self.assert_same(driven_by(loads=tuple(loads), stand=stand, rule=rule, tour=tour), words)
                else:
                    self.assert_raises("LeftStanding", [words], driven_by, tour, rule, stand, loads)

    def test_the_trailer_that_is_missing_is_told(self):
        with self.assertRaises(ValueError) as caught:
            driven_by(STAR, Never(), Stand({"a": 1}), [True, False, False, True, True])
        self.assertEqual(type(caught.exception.__cause__).__name__, "NoTrailer")
        self.assertEqual((caught.exception.index, caught.exception.__cause__.yard), (3, "c"))
        self.assert_raises("LeftStanding", [4], driven_by, BOTH, Never(), Stand({"a": 2}), [T, F, T, F, T])

    def test_rows_that_are_no_whole_tours(self):
        self.assert_same(driven_by(BOTH, Always(), TWO, []), ())
        self.assert_same(driven_by(RING, Always(), Stand({"a": BIG}), (T, F, T, F)), ("load", "pull", "load", "pull"))
        self.assert_same(driven_by(BOTH, Always(), Stand({}), [F, F, F]), ("leave",) * 3)

    def test_four_hundred_items(self):
        self.assert_same(driven_by(BOTH, Always(), TWO, [F] * 400), ("pull",) * 400)
        for loads in ([F] * 401, (F,) * 401, [1] * 401):
            self.assert_raises("BadLoads", [None], driven_by, BOTH, Always(), TWO, loads)

    def test_what_is_no_row_of_loads(self):
        for value in any_values():
            if not isinstance(value, (list, tuple)):
                self.assert_raises("BadLoads", [None], driven_by, BOTH, Always(), TWO, value)
            if not isinstance(value, bool):
                self.assert_raises("BadLoads", [0], driven_by, BOTH, Always(), TWO, [value, 1])
                self.assert_raises("BadLoads", [2], driven_by, BOTH, Always(), Stand({}), (T, T, value))
                self.assert_raises("BadLoads", [399], driven_by, BOTH, By(raising), TWO, [F] * 399 + [value])

    def test_wrong_values_in_their_order(self):
        for work in (driven_by, stranded, worst):
            more = [5] if work is driven_by else []
            for value in any_values():
                if not isinstance(value, Tour):
                    self.assert_raises("BadTour", ["tour"], work, value, None, None, *more)
                if not isinstance(value, Rule):
                    self.assert_raises("BadRule", ["rule"], work, BOTH, value, None, *more)
                if not isinstance(value, Stand):
                    self.assert_raises("BadStand", ["stand"], work, BOTH, By(raising), value, *more)
            self.assert_raises("NoYard", ["c"], work, BOTH, By(raising), Stand({"d": 1, "c": 2, "a": 1}), *more)


class StrandedTest(Case):
    def first_row(self, tour, rule, stand, most):
        """The first one of the shortest rows of at most so many loads at the end of which one is left standing."""
        for many in range(1, most + 1):
            for row in product((False, True), repeat=many):
                state = first_state(tour, stand)
                for at, load in enumerate(row):
                    step = rule_step(tour, rule, state, load)
                    if step is None:
                        if at == many - 1:
                            return row
                        break
                    state = step[2]
        return None

    def test_against_all_rows(self):
        chance = random.Random(54)
        for number, tour in enumerate([BOTH, RING, STAR, *some_tours(55, 12)]):
            for rule in some_rules(tour, number):
                stand = stand_at(tour, [chance.randint(0, 1) + few for few in need_at(tour)])
                row = stranded(tour, rule, stand)
                if row is None or len(row) > 8:
                    self.assertIsNone(self.first_row(tour, rule, stand, 8))
                else:
                    self.assert_same(row, self.first_row(tour, rule, stand, 8))

    def test_none_if_all_states_have_a_trailer(self):
        for number, tour in enumerate([BOTH, RING, STAR, *some_tours(56, 10)]):
            for rule in some_rules(tour, number):
                stand = need(tour) + Stand({tour.yards[0]: 1})
                states = rule_states(tour, rule, stand)
                strands = any(rule_step(tour, rule, state, True) is None for state in states)
                self.assertIs(stranded(tour, rule, stand) is None, not strands)
                self.assertFalse(strands and isinstance(rule, Guarded))

    def test_a_stand_without_trailers(self):
        self.assert_same(stranded(BOTH, Always(), Stand({})), (True,))
        self.assert_same(stranded(RING, Never(), Stand({"a": 1})), (False, True))


class WorstTest(Case):
    def test_papers_of_small_tours(self):
        for number, tour in enumerate([BOTH, RING, STAR, *some_tours(57, 20)]):
            for rule in some_rules(tour, number):
                for extra in (0, 1, 2):
                    stand = need(tour) + Stand({tour.yards[-1]: extra})
                    row = stranded(tour, rule, stand)
                    if row is not None:
                        self.assert_raises("Strands", [row], worst, tour, rule, stand)
                        continue
                    paper = worst(tour, rule, stand)
                    self.assertTrue(is_right_worst(tour, rule, stand, paper), f"{tour}; {stand}")
                    self.assertEqual(paper, worst(stand=stand, rule=rule, tour=tour))

    def test_rates_against_all_rings(self):
        for number, tour in enumerate([BOTH, RING, STAR, *some_tours(58, 15)]):
            for rule in some_rules(tour, number):
                stand = need(tour) + Stand({tour.yards[0]: 1, tour.yards[1]: 1})
                if stranded(tour, rule, stand) is None and len(rule_states(tour, rule, stand)) < 300:
                    def edges(state):
                        return [rule_step(tour, rule, state, load)[:3] for load in (False, True)]

                    mean = dearest_mean(edges, first_state(tour, stand))
                    self.assertEqual(fraction(worst(tour, rule, stand).rate), mean)

    def test_the_heights_are_those_of_the_states_that_can_be_come_to(self):
        paper = worst(BOTH, KEEP, TWO)
        self.assertEqual(set(paper.heights), rule_states(BOTH, KEEP, TWO))
        self.assertEqual(fraction(paper.rate), Fraction(5))

    def test_a_row_ahead_of_the_ring(self):
        # A spare at b spares the trip to a price of 5, so both have to be brought to a first.
        rule, stand = Guarded(Never()), Stand({"a": 1, "b": 2})
        paper = worst(BOTH, rule, stand)
        self.assertTrue(is_right_worst(BOTH, rule, stand, paper))
        self.assert_same((fraction(paper.rate), paper.row, paper.ring), (Fraction(5), (F, T, F, T), (F, T)))

    def test_two_thousand_states(self):
        # With an always pulled ring of two trips there is one state for each index.
        self.assertEqual(len(worst(BOTH, Always(), TWO).heights), 2)
        most = None
        for extra in range(300, 800):
            stand = Stand({"a": 1, "b": extra})
            if self.count(extra) > 2000:
                break
            most = stand
        self.assertEqual(self.count(most["b"]), len(rule_states(BOTH, Guarded(Never()), most)))
        self.assertEqual(len(worst(BOTH, Guarded(Never()), most).heights), self.count(most["b"]))
        self.assertIsNone(stranded(BOTH, Guarded(Never()), most))
        for work in (worst, stranded):
            self.assert_raises("TooMany", ["states", 2000], work, BOTH, Guarded(Never()), stand)
            self.assert_raises("TooMany", ["states", 2000], work, BOTH, Guarded(Never()), Stand({"a": BIG, "b": BIG}))

    def count(self, extra):
        """Behind a load or a pull and behind a leaving two states, at the beginnings one for each place."""
        return 3 * extra + 2

    def test_too_many_states_ahead_of_a_load_left_standing(self):
        self.assert_raises("TooMany", ["states", 2000], stranded, BOTH, Never(), Stand({"a": 2000, "b": 2000}))
        self.assert_raises("TooMany", ["states", 2000], worst, BOTH, Never(), Stand({"a": 2000, "b": 2000}))

    def test_papers_of_any_values(self):
        for value in any_values():
            paper = Worst(value, [value], (value,), {1: value})
            self.assertTrue(same(paper.rate, value) and same(paper.heights, {1: value}))
            self.assertEqual(paper, Worst(rate=value, row=[value], ring=(value,), heights={1: value}))
            self.assertIs(paper == Worst(value, (value,), (value,), {1: value}), False)
            moment = Moment(value, [value], (value,), {1: value})
            self.assertTrue(same((moment.tour, moment.index, moment.begun), (value, [value], (value,))))
            self.assertEqual(moment, Moment(tour=value, index=[value], begun=(value,), now={1: value}))
            self.assertIs(moment == Moment(value, [value], (value,), {True: value}), False)
        self.assertNotEqual(Moment(1, 2, 3, 4), Worst(1, 2, 3, 4))

    def test_what_was_returned_belongs_to_the_caller(self):
        before, again = worst(BOTH, KEEP, TWO), worst(BOTH, KEEP, TWO)
        again.heights.clear()
        self.assertEqual(worst(BOTH, KEEP, TWO), before)
        self.assertEqual(before.rate, Rate(5))


if __name__ == "__main__":
    unittest.main()
