import random
import unittest

from checks import Case, any_values, same
from emptypulls.depots import Depot
from emptypulls.errors import LeftStanding, NoTrailer, NoYard, PullError
from emptypulls.stands import Stand, placings, stranding
from emptypulls.tours import Tour
from emptypulls.trips import Trip
from reference import all_places, indexes, moved, need_at, some_tours, stand_at

BOTH = Tour.there_and_back("a", "b", 5)
RING = Tour.around("a", "b", "c").priced([3, 5, 7])
TWO = Stand({"a": 1, "b": 1})
WORDS = ("load", "pull", "leave")
WRONG_COUNTS = [-1, True, False, None, "1", [1], (), -10 ** 59, Stand({})]
BIG = 10 ** 60 - 1


class Broken(Exception):
    pass


def facts(depot):
    """All that can be seen of a depot."""
    return (str(depot.tour_now), str(depot.stand_now), depot.next_index, depot.laps, depot.paid, depot.driven,
            depot.deeds, [depot[yard] for yard in depot.tour_now.yards])


def no_yards(depot):
    wrong = ["c", "A", "", "a ", "ab", 0, 1, ("a",), ["a"], {"a": 1}]
    return [*wrong, *(value for value in any_values() if not isinstance(value, str)), depot]


def all_deeds():
    return [(lambda depot: depot.drive("leave"), "drive"), (lambda depot: depot.run("leave", "leave"), "run"),
            (lambda depot: depot.run(), "run"), (lambda depot: depot.put("a", 4), "put"),
            (lambda depot: depot.put("a", depot["a"]), "put"), (lambda depot: depot.__setitem__("b", 3), "put"),
            (lambda depot: depot.drop("a"), "drop"), (lambda depot: depot.drop("b"), "drop"),
            (lambda depot: depot.__iadd__("leave"), "drive")]


class MakingTest(Case):
    def test_facts(self):
        depot = Depot(BOTH, TWO)
        self.assert_same(facts(depot), ("a>b 5, b>a 1", "a 1, b 1", 0, 0, 0, (), 0, [1, 1]))
        self.assertEqual((depot.tour_now, depot.stand_now), (BOTH, TWO))
        depot = Depot(paid=7, index=1, stand=Stand({"b": BIG}), tour=BOTH)
        self.assert_same(facts(depot), ("a>b 5, b>a 1", f"b {BIG}", 1, 0, 7, (), 0, [0, BIG]))
        self.assert_same(Depot(BOTH, TWO, 0, BIG).paid, BIG)
        self.assert_same(Depot(BOTH, Stand({"a": 1, "c": 0})).stand_now["c"], 0)

    def test_properties(self):
        for name in ("stand_now", "next_index", "laps", "paid", "driven", "deeds", "tour_now"):
            self.assertIsInstance(vars(Depot)[name], property)
        depot = Depot(BOTH, TWO)
        for name in ("stand_now", "next_index", "laps", "paid", "driven", "deeds"):
            with self.assertRaises(AttributeError):
                setattr(depot, name, 1)

    def test_errors(self):
        for value in any_values():
            if not isinstance(value, Tour):
                self.assert_raises("BadTour", ["tour"], Depot, value, value, value, value)
            if not isinstance(value, Stand):
                self.assert_raises("BadStand", ["stand"], Depot, BOTH, value, value, value)
            if value not in (0, 1) or isinstance(value, bool) or not isinstance(value, int):
                self.assert_raises("BadCount", [value], Depot, BOTH, TWO, value, -1)
            if isinstance(value, bool) or not isinstance(value, int) or value < 0:
                self.assert_raises("BadCount", [value], Depot, BOTH, TWO, 1, value)
        self.assert_raises("NoYard", ["c"], Depot, BOTH, Stand({"a": 1, "c": 1, "d": 1}), -1, -1)
        self.assert_raises("BadCount", [2], Depot, BOTH, TWO, 2)
        self.assert_raises("BadCount", [-1], Depot, BOTH, TWO, -1)
        self.assertEqual(Depot(RING, TWO, 2).next_index, 2)


class DriveTest(Case):
    def test_every_word_from_every_kind_of_stand(self):
        for tour in [BOTH, RING, *some_tours(11, 8)]:
            for index in range(len(tour)):
                for number in range(3):
                    for numbers in all_places(len(tour.yards), number):
                        for word in WORDS:
                            self.look_at(tour, numbers, index, word)

    def look_at(self, tour, numbers, index, word):
        depot = Depot(tour, stand_at(tour, numbers), index, 100)
        before = facts(depot)
        trip = tour[index]
        behind = numbers if word == "leave" else moved(indexes(tour)[index], numbers)
        if behind is None:
            error, field = ("LeftStanding", index) if word == "load" else ("NoTrailer", trip.start)
            self.assert_raises(error, [field], depot.drive, word)
            self.assert_same(facts(depot), before)
            return
        cost = trip.price if word == "pull" else 0
        self.assert_same(depot.drive(word), cost)
        last = index == len(tour) - 1
        self.assert_same(facts(depot), (str(tour), str(stand_at(tour, behind)), 0 if last else index + 1,
                                        1 if last else 0, 100 + cost, (word,), 1, list(behind)))
        self.assert_same(depot.undo(), "drive")
        self.assert_same(facts(depot), before)

    def test_what_is_no_word(self):
        depot = Depot(BOTH, TWO)
        before = facts(depot)
        for value in [*any_values(), "Load", "load ", "loads", "", "none", "missed", ["load"], ("pull",), depot]:
            self.assert_raises("BadWord", [value], depot.drive, value)
            self.assert_raises("BadWord", [value], depot.run, "load", value, "load", None)
            self.assert_raises("BadWord", [value], depot.run, "leave", "load", "load", value)
            self.assert_raises("BadWord", [value], depot.__iadd__, value)
            self.assert_same(facts(depot), before)
        self.assert_same(depot.drive(word="pull"), 5)

    def test_a_load_left_standing_comes_from_a_missing_trailer(self):
        for work in (lambda depot: depot.drive("load"), lambda depot: depot.run("leave", "leave", "load")):
            with self.assertRaises(LeftStanding) as caught:
                work(Depot(BOTH, Stand({"b": 1})))
            self.assertEqual(caught.exception.index, 0)
            self.assertIs(type(caught.exception.__cause__), NoTrailer)
            self.assertEqual(caught.exception.__cause__.yard, "a")
        with self.assertRaises(NoTrailer) as caught:
            Depot(BOTH, Stand({"a": 1}), 1).drive("pull")
        self.assertEqual(caught.exception.yard, "b")
        self.assertIsNone(caught.exception.__cause__)

    def test_in_place(self):
        depot = same_depot = Depot(BOTH, TWO)
        depot += "load"
        depot += "pull"
        self.assertIs(depot, same_depot)
        self.assert_same((depot.paid, depot.driven, depot.deeds), (1, ("load", "pull"), 2))
        with self.assertRaises(PullError):
            depot += "x"
        self.assertIs(depot, same_depot)
        self.assert_same(depot.deeds, 2)
        self.assert_same((depot.undo(), depot.undo(), depot.deeds), ("drive", "drive", 0))

    def test_laps(self):
        depot = Depot(RING, TWO)
        laps = []
        for at in range(10):
            depot.drive("leave")
            laps.append((depot.laps, depot.next_index))
        self.assertEqual(laps, [((at + 1) // 3, (at + 1) % 3) for at in range(10)])
        depot.undo()
        depot.undo()
        self.assert_same((depot.laps, depot.next_index), (2, 2))
        self.assert_same(Depot(RING, TWO, 2).run("leave", "leave", "leave", "leave"), 0)


class RunTest(Case):
    def test_sum_and_one_deed(self):
        three = Stand({"a": 2, "b": 1})
        depot = Depot(RING, three, 0, 10)
        self.assert_same(depot.run("pull", "pull", "leave", "load"), 8)
        self.assert_same((depot.paid, depot.laps, depot.next_index, depot.deeds), (18, 1, 1, 1))
        self.assert_same(depot.driven, ("pull", "pull", "leave", "load"))
        self.assert_same(depot.undo(), "run")
        self.assert_same(facts(depot), facts(Depot(RING, three, 0, 10)))

    def test_without_words(self):
        depot = Depot(RING, TWO)
        self.assert_same((depot.run(), depot.deeds, depot.driven), (0, 1, ()))
        self.assert_same((depot.run(), depot.deeds), (0, 2))
        self.assert_same((depot.undo(), depot.undo(), depot.deeds), ("run", "run", 0))

    def test_the_last_word_cannot_be_driven(self):
        depot = Depot(BOTH, TWO)
        depot.drive("load")
        before = facts(depot)
        self.assert_raises("NoTrailer", ["a"], depot.run, "leave", "pull")
        self.assert_raises("LeftStanding", [0], depot.run, "leave", "load")
        self.assert_raises("LeftStanding", [0], depot.run, "load", "pull", "leave", "leave", "load", "load", "leave",
                           "leave", "leave", "load", "leave", "load")
        self.assert_raises("BadWord", [1], depot.run, "leave", "load", 1)
        self.assert_same(facts(depot), before)
        self.assert_same((depot.undo(), depot.deeds), ("drive", 0))

    def test_many_words(self):
        depot = Depot(BOTH, TWO)
        self.assert_same(depot.run(*["pull"] * 10000), 30000)
        self.assert_same((depot.laps, len(depot.driven), depot.undo(), depot.driven), (5000, 10000, "run", ()))


class ItemTest(Case):
    def test_numbers(self):
        depot = Depot(RING, TWO, 1, 3)
        self.assert_same([depot[yard] for yard in "abc"], [1, 1, 0])
        for many in (0, 1, 5, BIG):
            depot["c"] = many
            self.assert_same((depot["c"], depot.stand_now), (many, TWO + Stand({"c": many})))
            depot.put(yard="a", many=many)
            self.assert_same([depot[yard] for yard in "abc"], [many, 1, many])
            self.assertIsNone(depot.drop(yard="a"))
            self.assert_same([depot[yard] for yard in "abc"], [0, 1, many])
            self.assertIsNone(depot.put("a", 1))
        depot["c"] = 0
        depot["c"] += 2
        self.assert_same((depot["c"], depot.next_index, depot.paid, depot.driven), (2, 1, 3, ()))

    def test_what_is_no_yard(self):
        depot = Depot(BOTH, TWO)
        before = facts(depot)
        for value in no_yards(depot):
            self.assert_raises("NoYard", [value], lambda: depot[value])
            self.assert_raises("NoYard", [value], depot.__setitem__, value, 1)
            self.assert_raises("NoYard", [value], depot.__setitem__, value, -1)
            self.assert_raises("NoYard", [value], depot.put, value, 1)
            self.assert_raises("NoYard", [value], depot.put, value, None)
            self.assert_raises("NoYard", [value], depot.drop, value)
            self.assertIs(value in depot, False)
            self.assert_same(facts(depot), before)
        self.assertIs("a" in depot, True)
        self.assertIs("b" in Depot(BOTH, Stand({})), True)

    def test_what_is_no_number(self):
        depot = Depot(BOTH, TWO)
        before = facts(depot)
        for value in [*WRONG_COUNTS, *(value for value in any_values() if not isinstance(value, int))]:
            self.assert_raises("BadCount", [value], depot.put, "a", value)
            self.assert_raises("BadCount", [value], depot.__setitem__, "b", value)
            self.assert_same(facts(depot), before)

    def test_it_is_not_gone_over(self):
        with self.assertRaises(TypeError):
            list(Depot(BOTH, TWO))


class TourTest(Case):
    def test_another_tour(self):
        longer = BOTH + Tour.there_and_back("a", "c", 9)
        for change in (lambda depot, tour: depot.set_tour(tour=tour),
                       lambda depot, tour: setattr(depot, "tour_now", tour)):
            depot = Depot(BOTH, TWO)
            depot.run("load", "pull")
            before = facts(depot)
            change(depot, longer)
            self.assertEqual(depot.tour_now, longer)
            self.assert_same(facts(depot)[1:], ("a 1, b 1", 0, 1, 1, ("load", "pull"), 2, [1, 1, 0]))
            self.assertIs("c" in depot, True)
            depot.run("leave", "leave", "pull")
            self.assert_same((depot["c"], depot.paid, depot.laps, depot.next_index), (1, 10, 1, 3))
            self.assert_same((depot.undo(), depot.undo()), ("run", "tour"))
            self.assert_same(facts(depot), before)
            self.assertIs("c" in depot, False)

    def test_the_same_tour_is_a_deed(self):
        depot = Depot(BOTH, TWO)
        self.assertIsNone(depot.set_tour(BOTH))
        self.assert_same((depot.deeds, depot.undo(), depot.deeds), (1, "tour", 0))

    def test_errors(self):
        for index in (0, 1):
            depot = Depot(BOTH, TWO, index)
            before = facts(depot)
            for value in any_values():
                if not isinstance(value, Tour):
                    self.assert_raises("BadTour", ["tour"], depot.set_tour, value)
                    self.assert_raises("BadTour", ["tour"], setattr, depot, "tour_now", value)
            other = Tour.there_and_back("c", "d")
            told = ("NoYard", ["a"]) if index == 0 else ("BadTour", ["index"])
            self.assert_raises(*told, depot.set_tour, other)
            self.assert_raises(*told, setattr, depot, "tour_now", other)
            if index == 1:
                self.assert_raises("BadTour", ["index"], depot.set_tour, BOTH)
            self.assert_same(facts(depot), before)
        self.assert_raises("NoYard", ["b"], Depot(BOTH, TWO).set_tour, Tour.there_and_back("a", "c"))
        depot = Depot(BOTH, Stand({"a": 1}))
        depot.set_tour(Tour.there_and_back("a", "c"))
        self.assert_same((depot["c"], "b" in depot), (0, False))


class FairTest(Case):
    def test_each_index_and_stand(self):
        for tour in [BOTH, RING, BOTH | BOTH, *some_tours(12, 12)]:
            for index in range(len(tour)):
                for number in range(4):
                    for numbers in all_places(len(tour.yards), number):
                        self.look_at(tour, numbers, index)

    def look_at(self, tour, numbers, index):
        depot = Depot(tour, stand_at(tour, numbers), index)
        before = facts(depot)
        ahead, behind = need_at(tour, index), need_at(tour, (index + 1) % len(tour))
        driven = moved(indexes(tour)[index], numbers)
        fair = [word for word, found in zip(WORDS, (driven, driven, numbers))
                if found is not None and all(x >= y for x, y in zip(found, behind))]
        self.assert_same(depot.fair_words(), tuple(fair))
        above = [x - y for x, y in zip(numbers, ahead)]
        if min(above) >= 0:
            self.assertEqual(depot.spares_now(), stand_at(tour, above))
            goal = indexes(tour)[index][1]
            self.assertEqual("leave" in fair, above[goal] > 0)
            self.assertEqual(fair[:2], ["load", "pull"])
        else:
            row = stranding(tour >> index, stand_at(tour, numbers))
            self.assert_raises("Unsafe", [row], depot.spares_now)
        self.assert_same(facts(depot), before)


class UndoTest(Case):
    def test_each_deed(self):
        for deed, word in all_deeds():
            for index in (0, 1):
                depot = Depot(BOTH, TWO, index, 9)
                before = facts(depot)
                deed(depot)
                self.assert_same(depot.deeds, 1)
                self.assert_same(depot.undo(), word)
                self.assert_same(facts(depot), before)
                self.assert_raises("NoDeed", [], depot.undo)
                self.assert_same(facts(depot), before)

    def test_rows_of_deeds(self):
        chance = random.Random(7)
        for _ in range(100):
            depot = Depot(BOTH, Stand({"a": 2, "b": 1}))
            seen, words = [], []
            for deed, word in chance.choices(all_deeds(), k=12):
                seen.append(facts(depot))
                words.append(word)
                deed(depot)
                if chance.random() < 0.3:
                    self.assert_same(depot.undo(), words.pop())
                    self.assert_same(facts(depot), seen.pop())
            while words:
                self.assert_same(depot.undo(), words.pop())
                self.assert_same(facts(depot), seen.pop())
            self.assert_raises("NoDeed", [], depot.undo)


class TrialTest(Case):
    def test_a_block(self):
        depot = Depot(BOTH, TWO)
        depot.run("load", "pull")
        before = facts(depot)
        with depot.trial() as inside:
            self.assertIs(inside, depot)
            for deed, _ in all_deeds():
                deed(depot)
            self.assert_same(depot.deeds, 1 + len(all_deeds()))
        self.assert_same(facts(depot), before)
        self.assert_same((depot.undo(), depot.deeds), ("run", 0))

    def test_it_is_as_it_was_when_the_block_began(self):
        depot = Depot(BOTH, TWO)
        trial = depot.trial()
        depot.drive("load")
        before = facts(depot)
        with trial:
            depot.drive("load")
        self.assert_same(facts(depot), before)

    def test_undo_inside(self):
        depot = Depot(BOTH, TWO)
        depot.drive("load")
        depot.put("a", 3)
        before = facts(depot)
        with depot.trial():
            self.assert_same((depot.undo(), depot.undo()), ("put", "drive"))
            self.assert_raises("NoDeed", [], depot.undo)
            depot.drive("pull")
            depot.run("pull", "leave")
        self.assert_same(facts(depot), before)
        self.assert_same((depot.undo(), depot.undo(), depot.next_index), ("put", "drive", 0))

    def test_blocks_in_blocks(self):
        depot = Depot(BOTH, TWO)
        depot.drive("load")
        outer = facts(depot)
        with depot.trial():
            depot.drive("pull")
            depot.set_tour(BOTH + BOTH)
            inner = facts(depot)
            with depot.trial() as again:
                self.assertIs(again, depot)
                again.undo()
                again.undo()
                again.undo()
                again.drop("a")
                with depot.trial():
                    depot["a"] = 8
                self.assert_same(depot["a"], 0)
            self.assert_same(facts(depot), inner)
            self.assert_same(depot.undo(), "tour")
        self.assert_same(facts(depot), outer)

    def test_errors_leave_a_block(self):
        depot = Depot(BOTH, TWO)
        depot.drive("load")
        before = facts(depot)
        for error, work in ((Broken, None), (NoYard, lambda: depot.drop("z"))):
            with self.assertRaises(error):
                with depot.trial():
                    depot.drive("pull")
                    with depot.trial():
                        depot.undo()
                        depot.put("b", 9)
                        if work is None:
                            raise Broken()
                        work()
            self.assert_same(facts(depot), before)
        self.assert_same((depot.undo(), depot.deeds), ("drive", 0))

    def test_an_error_that_is_caught_inside(self):
        depot = Depot(BOTH, TWO)
        with depot.trial():
            depot.drive("load")
            inside = facts(depot)
            with self.assertRaises(Broken):
                with depot.trial():
                    depot.undo()
                    raise Broken()
            self.assert_same(facts(depot), inside)
        self.assert_same(facts(depot), facts(Depot(BOTH, TWO)))

    def test_tried(self):
        depot = Depot(BOTH, TWO)
        depot.drive("load")
        before = facts(depot)
        seen = []

        def work(inside):
            seen.append(inside)
            inside.undo()
            return [inside.run("pull", "pull"), inside.tried(work=lambda again: again.drive("leave")), inside.deeds]

        self.assert_same(depot.tried(work), [6, 0, 1])
        self.assertIs(seen[0], depot)
        self.assert_same(facts(depot), before)
        self.assertIsNone(depot.tried(lambda inside: None))
        self.assertIs(depot.tried(lambda inside: inside), depot)

    def test_tried_with_an_error(self):
        depot = Depot(BOTH, TWO)
        depot.put("a", 2)
        before = facts(depot)
        self.assert_raises("LeftStanding", [1], depot.tried,
                           lambda inside: (inside.drop("b"), inside.run("leave", "load")))
        self.assert_same(facts(depot), before)


class TwinTest(Case):
    def test_a_twin_goes_its_own_way(self):
        depot = Depot(BOTH, TWO, 1, 4)
        depot.run("load", "pull", "leave")
        twin = depot.twin()
        self.assertEqual(twin, depot)
        self.assertIsNot(twin, depot)
        self.assert_same(facts(twin)[:6], facts(depot)[:6])
        self.assert_same((twin.deeds, depot.deeds), (0, 1))
        self.assert_raises("NoDeed", [], twin.undo)
        before = facts(depot)
        twin.drive("leave")
        twin.put("a", 7)
        self.assert_same(facts(depot), before)
        ahead = facts(twin)
        depot.undo()
        depot.drop("b")
        self.assert_same(facts(twin), ahead)
        twin.undo()
        twin.undo()
        self.assert_same(facts(twin)[:6], before[:6])

    def test_equality(self):
        depot = Depot(BOTH, TWO)
        self.assertIs(depot == Depot(BOTH, TWO), True)
        self.assertIs(depot != Depot(BOTH, TWO), False)
        for other in (Depot(BOTH + BOTH, TWO), Depot(BOTH, Stand({"a": 1})), Depot(BOTH, TWO, 1),
                      Depot(BOTH, TWO, 0, 1)):
            self.assertIs(depot == other, False)
            self.assertIs(depot != other, True)
        for value in [*any_values(), BOTH, TWO]:
            self.assertIs(depot == value, False)
            self.assertIs(value == depot, False)

    def test_words_and_laps_count(self):
        zero = Tour.there_and_back("a", "b", 0, 0)
        one, other = Depot(zero, TWO), Depot(zero, TWO)
        one.run("load", "load")
        other.run("pull", "pull")
        self.assertEqual((one.stand_now, one.paid, one.laps), (other.stand_now, other.paid, other.laps))
        self.assertIs(one == other, False)
        other.undo()
        self.assertIs(one == other, False)
        other.run("load")
        other.drive("load")
        self.assertIs(one == other, True)
        other.put("a", 1)
        self.assertIs(one == other, True)

    def test_a_lap_in_another_tour_counts(self):
        short = Depot(BOTH, TWO)
        short.run("leave", "leave")
        short.set_tour(BOTH + BOTH)
        long = Depot(BOTH + BOTH, TWO)
        long.run("leave", "leave")
        self.assert_same((short.laps, long.laps, short == long), (1, 0, False))


class Model:
    """A second, plain depot: each deed keeps a copy of all that was."""

    def __init__(self, tour, numbers):
        self.now = {"tour": tour, "numbers": numbers, "index": 0, "laps": 0, "paid": 0, "driven": ()}
        self.past = []

    def do(self, deed, **changes):
        self.past.append((deed, self.now))
        self.now = {**self.now, **changes}

    def run(self, deed, words):
        now = dict(self.now)
        for word in words:
            tour, index = now["tour"], now["index"]
            if word != "leave":
                driven = moved(indexes(tour)[index], now["numbers"])
                if driven is None:
                    return False
                now["numbers"] = driven
            now["paid"] += tour[index].price if word == "pull" else 0
            now["laps"] += index == len(tour) - 1
            now["index"] = (index + 1) % len(tour)
            now["driven"] += (word,)
        self.do(deed, **now)
        return True

    def facts(self):
        now = self.now
        return (str(now["tour"]), str(stand_at(now["tour"], now["numbers"])), now["index"], now["laps"], now["paid"],
                now["driven"], len(self.past), list(now["numbers"]))


class ModelTest(Case):
    def test_rows_of_deeds(self):
        chance = random.Random(17)
        for tour in [BOTH, RING, *some_tours(18, 30)]:
            depot, model = Depot(tour, stand_at(tour, [1] * len(tour.yards))), Model(tour, (1,) * len(tour.yards))
            for _ in range(40):
                self.do_something(chance, depot, model)
                self.assert_same(facts(depot), model.facts())
            with depot.trial():
                kept = model.now, list(model.past)
                for _ in range(10):
                    self.do_something(chance, depot, model)
                self.assert_same(facts(depot), model.facts())
            model.now, model.past = kept
            self.assert_same(facts(depot), model.facts())
            while model.past:
                deed, model.now = model.past.pop()
                self.assert_same(depot.undo(), deed)
                self.assert_same(facts(depot), model.facts())

    def do_something(self, chance, depot, model):
        choice = chance.randrange(6)
        if choice == 0 and model.past:
            deed, model.now = model.past.pop()
            self.assert_same(depot.undo(), deed)
        elif choice == 1:
            at, many = chance.randrange(len(model.now["numbers"])), chance.randrange(3)
            yard = depot.tour_now.yards[at]
            depot.put(yard, many) if many else depot.drop(yard)
            numbers = model.now["numbers"][:at] + (many,) + model.now["numbers"][at + 1:]
            model.do("put" if many else "drop", numbers=numbers)
        elif choice == 2 and model.now["index"] == 0:
            tour = model.now["tour"] >> 1
            depot.tour_now = tour
            model.do("tour", tour=tour)
        else:
            words = chance.choices(WORDS, k=chance.randrange(5))
            deed = "run" if len(words) != 1 else "drive"
            drive = depot.run if len(words) != 1 else depot.drive
            before = model.now["paid"]
            if model.run(deed, words):
                self.assert_same(drive(*words), model.now["paid"] - before)
            else:
                with self.assertRaises((LeftStanding, NoTrailer)):
                    drive(*words)


class ConventionTest(Case):
    def test_what_a_depot_tells_stays_as_it_is(self):
        depot = Depot(BOTH, TWO)
        stand, tour, driven, spares = depot.stand_now, depot.tour_now, depot.driven, depot.spares_now()
        depot.run("load", "load")
        depot.put("a", 9)
        depot.set_tour(BOTH + BOTH)
        self.assertEqual((stand, tour, driven, spares), (TWO, BOTH, (), Stand({"b": 1})))
        self.assertEqual(TWO, Stand({"a": 1, "b": 1}))

    def test_an_error_keeps_a_depot_as_it_was(self):
        depot, other = Depot(BOTH, TWO), Depot(BOTH, TWO)
        for work in (lambda: depot.drive(other), lambda: depot.put("a", other), lambda: depot[other]):
            with self.assertRaises(PullError) as caught:
                work()
            kept = next(iter(vars(caught.exception).values()))
            self.assertEqual(kept, other)
            other.drive("load")
            self.assertNotEqual(kept, other)
            other.undo()
            self.assertTrue(same(kept, other))

    def test_all_stands_are_driven_by_trips_that_come_again(self):
        tour = Tour(Trip("a", "b", 2), Trip("a", "b", 3), Trip("b", "a", 4), Trip("b", "a", 5))
        for stand in placings(tour, 2):
            depot = Depot(tour, stand)
            paid = 0
            for at in range(8):
                if depot[tour[at % 4].start]:
                    paid += depot.drive("pull")
                else:
                    depot.drive("leave")
            self.assert_same((depot.paid, depot.laps), (paid, 2))


if __name__ == "__main__":
    unittest.main()
