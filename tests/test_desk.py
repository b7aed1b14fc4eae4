import random
import unittest

from checks import Case, any_values
from emptypulls.depots import Depot
from emptypulls.desk import Desk
from emptypulls.errors import PullError
from emptypulls.games import least_price, price_from
from emptypulls.known import endless_price, known_price
from emptypulls.orders import greatest_rising
from emptypulls.rules import Always, Fullest, Guarded, Never, stranded, worst
from emptypulls.stands import Stand, need
from emptypulls.tours import Tour
from reference import some_tours

BOTH = Tour.there_and_back("a", "b", 5)
OPEN = "open a>b 5, b>a 1"
SIX = Tour.around(*"abcdef")
RULES = {"always": Always(), "never": Never(), "fullest": Fullest(), "guarded": Guarded(Fullest())}
LINES = ["load", "pull", "leave", "put a 1", "tour a>b 1, b>a 2", "undo", "show", "need", "spares", "price", "least 1",
         "known nl 2", "endless nn", "worst guarded"]
RIGHT = [OPEN, "rising a>b 1, b>a 2", *LINES]


def opened(*lines):
    desk = Desk()
    desk.run(OPEN, *lines)
    return desk


def state(desk):
    """All that can be seen of a desk, also what can be taken back."""
    depot = desk.depot_now()
    if depot is None:
        return None
    words, copy = [], Desk()
    copy._depot = desk._depot.branch()
    while True:
        words.append((copy.depot_now().driven, copy("show"), str(copy.depot_now().tour_now), copy.depot_now().laps))
        if copy("undo") == "nothing":
            return words


class LineTest(Case):
    def test_a_desk_without_a_depot(self):
        desk = Desk()
        self.assertIsNone(desk.depot_now())
        for line in LINES:
            self.assert_raises("NoDepot", [], desk.ask, line)
            self.assert_raises("NoDepot", [], desk, line)
            self.assert_raises("NoDepot", [], desk.run, line)
        # Ahead of what is called, behind the look at the words.
        for line in ("tour a>b 1", "known n 1", "put z 1", "endless " + "l" * 48):
            self.assert_raises("NoDepot", [], desk.ask, line)
        for line, word in (("put a", 2), ("least 7", 1), ("tour a>b", 2), ("load x", 1)):
            self.assert_raises("BadLine", [word], desk.ask, line)
        self.assert_same(desk.ask("rising a>b 5, b>a 1"), "5 a b")
        self.assertIsNone(desk.depot_now())

    def test_open(self):
        desk = Desk()
        for tour in [BOTH, SIX, *some_tours(121, 10)]:
            self.assert_same(desk.ask(line=f"open {tour}"), "ok")
            self.assertEqual(desk.depot_now(), Depot(tour, need(tour)))
            self.assert_same(desk("undo"), "nothing")
            desk.ask("leave")
        for line, name, fields in (("a>b 1", "BadTour", ["trips"]), ("a>b 1, c>b 1", "Unbalanced", ["a"]),
                                   ("a>b 1, b>c 1, c>d 1, d>e 1, e>f 1, f>g 1, g>a 1", "TooMany", ["yards", 6])):
            before = state(desk)
            for head in ("open", "rising", "tour"):
                self.assert_raises(name, fields, desk.ask, f"{head} {line}")
            self.assertEqual(state(desk), before)

    def test_rising(self):
        for tour in [BOTH, SIX, *some_tours(122, 20, "abcdef")]:
            paper = greatest_rising(tour)
            self.assert_same(Desk().ask(f"rising {tour}"), f"{paper.number} {' '.join(paper.order)}")

    def test_driving(self):
        desk = opened("put b 2")
        depot = Depot(BOTH, Stand({"a": 1, "b": 2}))
        for word in ("load", "pull", "leave", "leave", "pull", "load"):
            self.assert_same(desk(word), str(depot.drive(word)))
            self.assert_same(desk("show"), f"{depot.stand_now} at {depot.next_index} paid {depot.paid}")
        before = state(desk)
        self.assert_same([desk("put a 0"), desk("show")], ["ok", "b 2 at 0 paid 6"])
        self.assert_raises("LeftStanding", [0], desk, "load")
        self.assert_raises("NoTrailer", ["a"], desk, "pull")
        self.assert_same(desk("undo"), "put")
        self.assertEqual(state(desk), before)

    def test_put(self):
        desk = opened()
        self.assert_same([desk("put b 999999999"), desk("put a 0"), desk("show")], ["ok", "ok", "b 999999999 at 0 paid 0"])
        self.assert_same([desk("put b 0"), desk("show")], ["ok", "- at 0 paid 0"])
        self.assert_raises("NoYard", ["c"], desk, "put c 1")
        self.assert_raises("NoYard", ["abcdefgh"], desk, "put abcdefgh 0")

    def test_tour(self):
        desk = opened("put b 1")
        self.assert_same([desk("tour b>a 2, a>b 3"), desk("need"), desk("undo"), desk("need")],
                         ["ok", "b 1", "tour", "a 1"])
        self.assert_raises("NoYard", ["b"], desk, "tour a>c 1, c>a 1")
        desk("leave")
        self.assert_raises("BadTour", ["index"], desk, "tour b>a 2, a>b 3")
        self.assert_raises("BadTour", ["index"], desk, "tour a>c 1, c>a 1")

    def test_undo(self):
        desk = opened("put b 1", "load", "pull", "tour b>a 1, a>b 1")
        self.assert_same([desk("undo") for _ in range(6)], ["tour", "drive", "drive", "put", "nothing", "nothing"])
        self.assertEqual(desk.depot_now(), Depot(BOTH, Stand({"a": 1})))

    def test_what_is_told_of_the_depot(self):
        chance = random.Random(123)
        for tour in [BOTH, *some_tours(124, 12)]:
            desk = Desk()
            desk(f"open {tour}")
            for yard in tour.yards:
                desk(f"put {yard} {chance.randint(0, 2)}")
            for _ in range(chance.randrange(len(tour))):
                desk("leave")
            depot = desk.depot_now()
            ahead, stand = tour >> depot.next_index, depot.stand_now
            self.assert_same(desk("need"), str(need(ahead)))
            self.look(desk, "spares", lambda: str(depot.spares_now()))
            self.look(desk, "price", lambda: str(price_from(ahead, stand).rate))
            for number in range(3):
                self.look(desk, f"least {number}", lambda: str(least_price(tour, number).rate))
                loads = [chance.random() < 0.5 for _ in range(len(tour) * chance.randint(1, 2))]
                word = "".join("l" if load else "n" for load in loads)
                self.look(desk, f"known {word} {number}", lambda: str(known_price(tour, loads, number).rate))
                self.look(desk, f"endless {word}", lambda: str(endless_price(tour, loads).rate))
            for word, rule in RULES.items():
                row = stranded(ahead, rule, stand)
                if row is None:
                    self.assert_same(desk(f"worst {word}"), str(worst(ahead, rule, stand).rate))
                else:
                    told = "".join("l" if load else "n" for load in row)
                    self.assert_same(desk(f"worst {word}"), f"strands {told}")
            self.assertEqual(desk.depot_now(), depot)

    def look(self, desk, line, work):
        """That a line returns what the work does, or raises just its error."""
        before = state(desk)
        try:
            told = work()
        except PullError as error:
            self.assert_raises(type(error).__name__, vars(error).values(), desk.ask, line)
        else:
            self.assert_same(desk.ask(line), told)
        self.assertEqual(state(desk), before)

    def test_each_number_of_spares(self):
        desk = opened()
        for number in range(7):
            self.assert_same(desk(f"least {number}"), str(least_price(BOTH, number).rate))
            self.assert_same(desk(f"known nl {number}"), str(known_price(BOTH, [False, True], number).rate))

    def test_rows_that_are_no_whole_tours(self):
        desk = opened()
        for word in ("l", "nln", "n" * 47):
            self.assert_raises("BadLoads", [None], desk, f"known {word} 0")
            self.assert_raises("BadLoads", [None], desk, f"endless {word}")
        self.assert_same([desk("endless " + "nl" * 24), desk("known " + "n" * 48 + " 0")], ["5", "6"])

    def test_errors_of_what_is_called(self):
        desk = opened("put a 0", "put b 1")
        for line, name, fields in (("spares", "Unsafe", [(True,)]), ("price", "Unsafe", [(True,)]),
                                   ("load", "LeftStanding", [0]), ("pull", "NoTrailer", ["a"])):
            before = state(desk)
            self.assert_raises(name, fields, desk, line)
            self.assertEqual(state(desk), before)
        self.assert_same(desk("worst always"), "strands l")
        desk.run("put a 1", "put b 400")
        self.assert_raises("TooMany", ["places", 400], desk, "price")
        desk.run("put b 999999999", "put a 999999999")
        self.assert_raises("TooMany", ["states", 2000], desk, "worst never")
        wide = Desk()
        wide(f"open {SIX}")
        self.assert_raises("TooMany", ["places", 400], wide, "least 4")
        self.assert_raises("TooMany", ["places", 400], wide, "known " + "n" * 48 + " 2")


class WordTest(Case):
    def wrong(self, word, line):
        for desk in (Desk(), opened("load")):
            before = state(desk)
            self.assert_raises("BadLine", [word], desk.ask, line)
            self.assert_raises("BadLine", [word], desk, line)
            self.assert_raises("BadLine", [word], desk.run, "rising a>b 1, b>a 1", line)
            self.assertEqual(state(desk), before)

    def test_what_is_no_line(self):
        for value in any_values():
            self.wrong(0, value)
        for line in ("", " ", " load", "Load", "load\n", "opens a>b 1, b>a 1", "trip", "a>b 1", "ok", "known,", "tours"):
            self.wrong(0, line)

    def test_lines_of_one_word(self):
        for head in ("load", "pull", "leave", "undo", "show", "need", "spares", "price"):
            for more in (" ", " x", " 1", " load", "  "):
                self.wrong(1, head + more)

    def test_tours(self):
        for head in ("open", "rising", "tour"):
            for text, word in (("", 1), (" ", 1), (" a>b", 2), (" a>b 5,", 2), (" a>b 5, b>a", 4), (" a>b 5, b>a 1,", 4),
                               (" a>b 5, b>a 1 ", 4), (" a>b 5, b>a 1 x", 4), ("  a>b 5, b>a 1", 1), (" a>a 5, b>a 1", 1),
                               (" a>b 100, b>a 1", 2), (" a>b 5 b>a 1", 2), (" x" * 3, 1),
                               (" " + ", ".join(["a>b 1, b>a 1"] * 7), 25)):
                self.wrong(word, head + text)

    def test_put(self):
        for text, word in (("", 1), (" ", 1), (" a", 2), (" a ", 2), (" A 1", 1), (" abcdefghi 1", 1), (" a -1", 2),
                           (" a 01", 2), (" a 1234567890", 2), (" a 1 ", 3), (" a 1 1", 3), (" a x y", 2), (" 1 a", 1),
                           (" a 1,", 2), (" a 00", 2), (" a +1", 2), ("  a 1", 1)):
            self.wrong(word, "put" + text)

    def test_numbers_of_spares(self):
        for text, word in (("", 1), (" ", 1), (" 7", 1), (" -1", 1), (" 00", 1), (" 06", 1), (" 1 ", 2), (" 1 1", 2),
                           (" x", 1), (" 10", 1), (" 1,", 1)):
            self.wrong(word, "least" + text)
            self.wrong(word + 1, "known nn" + text)

    def test_rows_of_loads(self):
        for text, word in (("", 1), (" ", 1), (" nx", 1), (" N", 1), (" " + "n" * 49, 1), (" n,l", 1), (" 1", 1)):
            self.wrong(word, "endless" + text)
            self.wrong(word, "known" + text)
            self.wrong(1, "known" + (text or " ") + " 1")
        self.wrong(2, "endless nn 1")
        self.wrong(2, "known nn")
        self.wrong(3, "known nn 1 1")

    def test_rules(self):
        for text, word in (("", 1), (" ", 1), (" Never", 1), (" levels", 1), (" never ", 2), (" never always", 2),
                           (" guarded(fullest)", 1), (" by", 1)):
            self.wrong(word, "worst" + text)

    def test_each_right_line_spoilt(self):
        chance = random.Random(125)
        for line in RIGHT:
            for _ in range(40):
                at = chance.randrange(len(line))
                other = line[:at] + chance.choice("a1 ,>X") + line[at + chance.randint(0, 1):]
                desk = opened("put b 1")
                before = state(desk)
                try:
                    self.assertIs(type(desk(other)), str)
                except PullError:
                    self.assertEqual(state(desk), before)


class RunTest(Case):
    def test_answers(self):
        self.assert_same(Desk().run(), [])
        self.assert_same(opened().run("put b 1", "spares", "load"), ["ok", "b 1", "0"])
        one, other = opened("leave"), opened("leave")
        lines = ["leave", *LINES[3:], *LINES[:3]]
        self.assert_same(one.run(*lines), [other(line) for line in lines])
        self.assertEqual(state(one), state(other))

    def test_a_refused_line_at_each_place(self):
        rows = ["put b 1", "load", "open a>c 1, c>a 1", "leave", "undo", "put c 2", "tour c>a 1, a>c 1"]
        for begun in ([], ["load"], ["put b 3", "load", "undo"]):
            for at in range(len(rows) + 1):
                for refused, name, fields in (("x", "BadLine", [0]), ("put z 1", "NoYard", ["z"]), (None, "BadLine", [0]),
                                              ("open a>b 1", "BadTour", ["trips"])):
                    desk = opened(*begun)
                    before, depot = state(desk), desk.depot_now()
                    self.assert_raises(name, fields, desk.run, *rows[:at], refused, *rows[at:])
                    self.assertEqual(state(desk), before)
                    self.assertEqual(desk.depot_now(), depot)

    def test_a_desk_that_had_no_depot(self):
        desk = Desk()
        self.assert_raises("NoDepot", [], desk.run, "load", OPEN)
        self.assert_raises("BadLine", [0], desk.run, OPEN, "load", "")
        self.assertIsNone(desk.depot_now())
        self.assert_raises("NoDepot", [], desk, "show")
        self.assert_same(desk.run(OPEN, "load"), ["ok", "0"])

    def test_what_can_be_taken_back_behind_a_run(self):
        desk = opened("put b 1", "load")
        self.assert_raises("NoYard", ["z"], desk.run, "undo", "undo", "leave", "put z 1")
        self.assert_same(desk.run("pull", "undo", "undo", "undo", "undo"), ["1", "drive", "drive", "put", "nothing"])

    def test_runs_by_another_desk(self):
        one, other = opened("load"), opened("put b 1")
        one("put b 3")
        self.assert_same([one("show"), other("show")], ["b 3 at 1 paid 0", "a 1, b 1 at 0 paid 0"])


class DepotNowTest(Case):
    def test_a_twin_goes_its_own_way(self):
        desk = opened("put b 1", "load", "pull")
        twin = desk.depot_now()
        self.assertIs(type(twin), Depot)
        self.assert_same((twin.driven, twin.paid, twin.laps, twin.deeds), (("load", "pull"), 1, 1, 0))
        twin.run("leave", "leave")
        twin["b"] = 9
        self.assert_same(desk("show"), "a 1, b 1 at 0 paid 1")
        desk("put a 7")
        self.assert_same(str(twin.stand_now), "a 1, b 9")
        self.assertNotEqual(desk.depot_now(), twin)
        self.assertEqual(desk.depot_now(), desk.depot_now())

    def test_a_twin_of_the_depot_that_was_open_then(self):
        desk = opened()
        before = desk.depot_now()
        desk("open a>c 1, c>a 1")
        self.assertEqual(before, Depot(BOTH, Stand({"a": 1})))
        self.assertEqual(desk.depot_now().tour_now.yards, ("a", "c"))

    def test_a_desk_equals_itself_alone(self):
        desk = Desk()
        for value in [*any_values(), Desk()]:
            self.assertIs(desk == value, False)
        self.assertIs(desk == desk, True)


if __name__ == "__main__":
    unittest.main()
