import random
import unittest
from itertools import product

from checks import Case, any_values, same
from driving import first_state, rule_step, some_rules
from emptypulls.compare import Cheap, Dearer, never_dearer
from emptypulls.rules import Always, By, Fullest, Guarded, Levels, Never, Rule, stranded
from emptypulls.stands import Stand, need
from emptypulls.tours import Tour
from papers import driven, is_right_compared
from reference import some_tours

BOTH = Tour.there_and_back("a", "b", 5)
RING = Tour.around("a", "b", "c")
TWO = Stand({"a": 1, "b": 1})
KEEP = Levels({"a": 1, "b": 1})
BIG = 10 ** 60 - 1


def raising(moment):
    raise AssertionError("asked")


def shortest_dearer(tour, one, other, stand, most):
    """The length of the shortest rows of at most so many loads behind which one has paid more; None if there is none."""
    first = first_state(tour, stand)
    for many in range(1, most + 1):
        for row in product((False, True), repeat=many):
            if driven(tour, one, first, row)[0] > driven(tour, other, first, row)[0]:
                return many
    return None


def mixed(seed, odds):
    """A rule that pulls at so many of a hundred moments."""
    return By(lambda moment: random.Random(f"{seed} {moment.index} {moment.begun} {moment.now}").random() * 100 < odds)


def first_dearer_length(tour, one, other, stand):
    """The first length of a row behind which one can have paid more, by the greatest leads of all lengths."""
    first = first_state(tour, stand)
    leads, many = {(*first, *first[1:]): 0}, 0
    while max(leads.values()) <= 0:
        further = {}
        for key, lead in leads.items():
            for load in (False, True):
                step = rule_step(tour, one, key[:3], load)
                step_other = rule_step(tour, other, (key[0], *key[3:]), load)
                behind = (*step[2], *step_other[2][1:])
                further[behind] = max(further.get(behind, -10 ** 9), lead + step[0] - step_other[0])
        leads, many = further, many + 1
    return many


class ComparedTest(Case):
    def pairs(self, seed, many, yards="abc"):
        chance = random.Random(seed)
        for number, tour in enumerate([BOTH, RING, *some_tours(seed, many, yards)]):
            stand = need(tour) + Stand({tour.yards[0]: chance.randint(0, 1), tour.yards[1]: 1})
            rules = [rule for rule in some_rules(tour, number) if stranded(tour, rule, stand) is None]
            for one in rules:
                yield tour, one, chance.choice(rules), stand

    def test_papers_of_small_tours(self):
        kinds = []
        for tour, one, other, stand in self.pairs(61, 15):
            paper = never_dearer(tour, one, other, stand)
            kinds.append(bool(paper))
            self.assertTrue(is_right_compared(tour, one, other, stand, paper), f"{tour}; {stand}")
            self.assertEqual(paper, never_dearer(tour=tour, one=one, other=other, stand=stand))
        self.assertEqual(set(kinds), {True, False})

    def test_against_all_rows(self):
        for tour, one, other, stand in self.pairs(62, 6):
            paper = never_dearer(tour, one, other, stand)
            shortest = shortest_dearer(tour, one, other, stand, 8)
            if shortest is None:
                self.assertTrue(bool(paper) or len(paper.loads) > 8)
            else:
                self.assert_same((type(paper), len(paper.loads)), (Dearer, shortest))

    def test_the_marks_are_those_of_what_can_be_come_to(self):
        paper = never_dearer(BOTH, KEEP, Always(), TWO)
        first = first_state(BOTH, TWO)
        found = [(*first, *first[1:])]
        for key in found:
            for load in (False, True):
                one = rule_step(BOTH, KEEP, key[:3], load)[2]
                other = rule_step(BOTH, Always(), (key[0], *key[3:]), load)[2]
                if (*one, *other[1:]) not in found:
                    found.append((*one, *other[1:]))
        self.assertEqual(set(paper.marks), set(found))
        self.assert_same(paper.marks[found[0]], 0)

    def test_a_rule_and_itself(self):
        for tour, one, _, stand in self.pairs(63, 5):
            paper = never_dearer(tour, one, one, stand)
            self.assertIs(bool(paper), True)
            self.assertEqual(set(paper.marks.values()), {0})

    def test_rows_that_are_much_longer_than_the_states_are_many(self):
        # In these one pays much less at first, and then a little more again and again.
        few = Tour.read("a>b 9, b>a 7, a>b 1, b>a 2")
        many = Tour.read("a>b 50, b>a 1, a>b 0, b>a 2")
        for tour, stand, seed, odds, long in ((few, Stand({"a": 3, "b": 3}), 2214, 50, 51),
                                              (many, Stand({"a": 3, "b": 1}), 3925, 80, 206)):
            one, other = Guarded(mixed(seed, 20)), Guarded(mixed(-seed - 1, odds))
            paper = never_dearer(tour, one, other, stand)
            self.assertTrue(is_right_compared(tour, one, other, stand, paper))
            self.assert_same(len(paper.loads), long)
            self.assert_same(first_dearer_length(tour, one, other, stand), long)

    def test_rules_that_strand_and_too_many_states(self):
        strands = stranded(BOTH, Never(), TWO)
        self.assert_raises("Strands", [strands], never_dearer, BOTH, Never(), Always(), TWO)
        self.assert_raises("Strands", [strands], never_dearer, BOTH, Always(), Never(), TWO)
        full = stranded(BOTH, Fullest(), Stand({"a": 1}))
        alone = Stand({"a": 1})
        self.assertNotEqual(full, stranded(BOTH, Never(), alone))
        self.assert_raises("Strands", [full], never_dearer, BOTH, Fullest(), Never(), alone)
        self.assert_raises("Strands", [stranded(BOTH, Never(), alone)], never_dearer, BOTH, Never(), Fullest(), alone)
        much = Stand({"a": 1, "b": BIG})
        many, most = ("TooMany", ["states", 2000]), Guarded(Never())
        self.assert_raises(*many, never_dearer, BOTH, most, Always(), much)
        self.assert_raises(*many, never_dearer, BOTH, Always(), most, much)
        self.assert_raises("Strands", [(True,)], never_dearer, BOTH, Always(), most, Stand({"b": BIG}))
        # A rule that strands at once and one that comes to too many states: those of one ahead of those of other.
        works = [By(lambda moment: True), most]
        self.assert_raises("Strands", [(True,)], never_dearer, BOTH, works[0], works[1], Stand({"b": 5000}))

    def test_too_many_pairs_of_states(self):
        # By itself each rule comes to less than 2000 states, but both of them come to more pairs.
        tour = BOTH | BOTH
        one, other = Guarded(Never()), Guarded(Levels({"a": 20}))
        for extra in range(1, 60):
            stand = need(tour) + Stand({"a": extra, "b": extra})
            told = self.kind_of(tour, one, other, stand)
            if told != "Cheap" and told != "Dearer":
                break
        self.assertEqual(told, "TooMany")
        self.assertIsNone(stranded(tour, one, stand))
        self.assertIsNone(stranded(tour, other, stand))

    def kind_of(self, tour, one, other, stand):
        try:
            return type(never_dearer(tour, one, other, stand)).__name__
        except ValueError as error:
            return type(error).__name__

    def test_wrong_values_in_their_order(self):
        for value in any_values():
            if not isinstance(value, Tour):
                self.assert_raises("BadTour", ["tour"], never_dearer, value, None, None, None)
            if not isinstance(value, Rule):
                self.assert_raises("BadRule", ["one"], never_dearer, BOTH, value, None, None)
                self.assert_raises("BadRule", ["other"], never_dearer, BOTH, By(raising), value, None)
            if not isinstance(value, Stand):
                self.assert_raises("BadStand", ["stand"], never_dearer, BOTH, By(raising), Always(), value)
        self.assert_raises("NoYard", ["c"], never_dearer, BOTH, By(raising), Always(), Stand({"c": 1, "d": 2}))


class PaperTest(Case):
    def test_papers_of_any_values(self):
        for value in any_values():
            cheap, dearer = Cheap(value), Dearer(value)
            self.assertTrue(same(cheap.marks, value) and same(dearer.loads, value))
            self.assert_same((bool(cheap), bool(dearer)), (True, False))
            self.assertEqual((cheap, dearer), (Cheap(marks=value), Dearer(loads=value)))
            self.assertIs(cheap == dearer, False)
            self.assertIs(cheap == Cheap([value]), False)
            self.assertIs(dearer == Dearer([value]), False)

    def test_what_is_changed_later(self):
        marks = {1: [2]}
        paper = Cheap(marks)
        marks[1].append(3)
        self.assertEqual(paper.marks, {1: [2]})
        again = never_dearer(BOTH, KEEP, Always(), TWO)
        again.marks.clear()
        self.assertNotEqual(never_dearer(BOTH, KEEP, Always(), TWO), again)


if __name__ == "__main__":
    unittest.main()
