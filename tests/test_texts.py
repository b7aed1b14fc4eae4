import random
import unittest

from checks import Case, any_values
from emptypulls.depots import Depot
from emptypulls.reader import read_depot
from emptypulls.stands import Stand, need
from emptypulls.texts import depot_text
from emptypulls.tours import Tour
from reference import some_tours, stand_at

BOTH = Tour.there_and_back("a", "b", 5)
TWO = Stand({"a": 1, "b": 1})
BIG = 10 ** 60 - 1
LINES = ["tour a>b 5, b>a 1", "stand a 1, b 12", "at 1", "paid 30"]
TEXT = "\n".join(LINES)


class TextTest(Case):
    def test_depots_of_every_kind(self):
        chance = random.Random(111)
        for tour in [BOTH, Tour.around(*"abcdef"), BOTH * 6, *some_tours(112, 30, "abcd")]:
            for stand in (Stand({}), need(tour), stand_at(tour, [chance.randint(0, 3) for _ in tour.yards]),
                          stand_at(tour, [BIG for _ in tour.yards])):
                for paid in (0, 7, BIG):
                    index = chance.randrange(len(tour))
                    text = depot_text(Depot(tour, stand, index, paid))
                    self.assert_same(text, f"tour {tour}\nstand {stand}\nat {index}\npaid {paid}")
                    self.assertEqual(read_depot(text), Depot(tour, stand, index, paid))
                    self.assert_same(depot_text(depot=read_depot(text=text)), text)

    def test_without_laps_words_and_deeds(self):
        depot = Depot(BOTH, TWO)
        depot.run("load", "pull", "leave")
        depot.put("b", 4)
        read = read_depot(depot_text(depot))
        self.assertEqual((read.stand_now, read.next_index, read.paid, read.tour_now),
                         (depot.stand_now, depot.next_index, depot.paid, depot.tour_now))
        self.assert_same((read.laps, read.driven, read.deeds), (0, (), 0))
        self.assertEqual((depot.laps, depot.deeds), (1, 2))
        self.assertNotEqual(read, depot)
        self.assert_raises("NoDeed", [], read.undo)

    def test_what_is_no_depot(self):
        for value in [*any_values(), TEXT, Depot]:
            if not isinstance(value, Depot):
                self.assert_raises("BadStand", ["depot"], depot_text, value)

    def test_a_sum_beyond_the_digits_that_python_writes(self):
        text = depot_text(Depot(BOTH, TWO, 0, 10 ** 5000))
        self.assert_same(text.split("\n")[3], "paid 1" + "0" * 5000)


class ReadTest(Case):
    def wrong(self, line, word, *lines):
        self.assert_raises("BadText", [line, word], read_depot, "\n".join(lines))

    def test_what_is_no_string(self):
        for value in any_values():
            if not isinstance(value, str):
                self.assert_raises("BadText", [0, 0], read_depot, value)
        for text in ("", " ", "x", "tour", "\n", "stand -"):
            words = (0, 1) if text == "tour" else (0, 0)
            self.assert_raises("BadText", words, read_depot, text)

    def test_too_few_and_too_many_lines(self):
        for many in range(1, 4):
            self.wrong(many, 0, *LINES[:many])
        for more in ("", "x", "paid 1", "paid 1 2"):
            self.wrong(4, 0, *LINES, more)
        self.wrong(4, 0, *LINES, "", "")
        self.wrong(1, 0, LINES[0], "")

    def test_lines_in_another_order(self):
        for at in range(4):
            for other in range(4):
                if other != at:
                    lines = list(LINES)
                    lines[at] = LINES[other]
                    self.wrong(at, 0, *lines)
            self.wrong(at, 0, *(LINES[:at] + LINES[at + 1:])) if at < 3 else self.wrong(3, 0, *LINES[:3])
            if at < 3:
                self.wrong(at + 1, 0, *LINES[:at + 1], *LINES[at:])
            self.wrong(at, 0, *LINES[:at], " " + LINES[at], *LINES[at + 1:])
            self.wrong(at, 0, *LINES[:at], LINES[at].upper(), *LINES[at + 1:])

    def test_the_first_wrong_line_is_told(self):
        self.wrong(0, 2, "tour a>b 5 b>a 1", "stand x", "at", "paid")
        self.wrong(1, 2, LINES[0], "stand a 0", "at 9", "paid x")
        self.wrong(2, 1, LINES[0], LINES[1], "at 9", "paid x")
        self.wrong(3, 1, *LINES[:3], "paid x", "paid 1")
        self.wrong(0, 1, "tour 5")

    def test_words_of_a_tour(self):
        for text, word in (("tour", 1), ("tour ", 1), ("tour a>b", 2), ("tour a>b 5,", 2), ("tour a>b 5, b>a", 4),
                           ("tour a>b 5, b>a 1,", 4), ("tour a>b 5, b>a 1 ", 4), ("tour a>b 5, b>b 1", 3),
                           ("tour  a>b 5, b>a 1", 1), ("tour a>b  5, b>a 1", 2), ("tour a>b 05, b>a 1", 2),
                           ("tour a>b 100, b>a 1", 2), ("tour a>b, 5 b>a 1", 1), ("tour a>b 5, b>a 1 x", 4),
                           ("tour a>b 5, b>a -1", 4), ("tour " + ", ".join(["a>b 1, b>a 1"] * 7), 25)):
            self.wrong(0, word, text, *LINES[1:])

    def test_words_of_a_stand(self):
        for text, word in (("stand", 1), ("stand ", 1), ("stand a", 2), ("stand a 1,", 2), ("stand a 1, b", 4),
                           ("stand a 0", 2), ("stand b 1, a 1", 3), ("stand a 1, a 1", 3), ("stand a 01", 2),
                           ("stand - -", 2), ("stand - a 1", 2), ("stand a 1 b 1", 2), ("stand a 1, b 1 ", 4),
                           ("stand a " + "9" * 61, 2), ("stand A 1", 1), ("stand a 1, -", 3), ("stand a +1", 2)):
            self.wrong(1, word, LINES[0], text, *LINES[2:])
        self.assertEqual(read_depot(TEXT.replace("12", "9" * 60)).stand_now, Stand({"a": 1, "b": BIG}))

    def test_words_of_an_index(self):
        for text, word in (("at", 1), ("at ", 1), ("at 2", 1), ("at 01", 1), ("at -1", 1), ("at 1 ", 2), ("at 1 1", 2),
                           ("at x", 1), ("at  1", 1), ("at 1,", 1), ("at " + "1" * 61, 1), ("at 9 9", 1)):
            self.wrong(2, word, *LINES[:2], text, LINES[3])
        for index in range(12):
            text = "\n".join([f"tour {BOTH * 6}", "stand -", f"at {index}", "paid 0"])
            self.assert_same(read_depot(text).next_index, index)
        self.wrong(2, 1, f"tour {BOTH * 6}", "stand -", "at 12", "paid 0")

    def test_words_of_a_sum(self):
        for text, word in (("paid", 1), ("paid ", 1), ("paid 01", 1), ("paid 00", 1), ("paid -1", 1), ("paid 1 ", 2),
                           ("paid 1 2", 2), ("paid " + "9" * 61, 1), ("paid x x", 1), ("paid 1.0", 1)):
            self.wrong(3, word, *LINES[:3], text)
        for paid in (0, 1, 10, BIG):
            self.assert_same(read_depot("\n".join([*LINES[:3], f"paid {paid}"])).paid, paid)

    def test_errors_behind_the_look_at_all_words(self):
        many = "tour " + ", ".join(["a>b 1, b>c 1, c>d 1, d>e 1, e>f 1, f>g 1, g>a 1"])
        rest = ["stand c 1, z 1", "at 0", "paid 0"]
        for line, name, fields in (("tour a>b 1", "BadTour", ["trips"]), (many, "TooMany", ["yards", 6]),
                                   ("tour a>b 1, c>b 1", "Unbalanced", ["a"]), (LINES[0], "NoYard", ["c"])):
            self.assert_raises(name, fields, read_depot, "\n".join([line, *rest]))
            self.assert_raises("BadText", [3, 2], read_depot, "\n".join([line, *rest[:2], "paid 0 0"]))
            self.assert_raises("BadText", [4, 0], read_depot, "\n".join([line, *rest, ""]))
            self.assert_raises("BadText", [3, 0], read_depot, "\n".join([line, *rest[:2]]))
        self.assert_raises("BadText", [2, 1], read_depot, "\n".join(["tour a>b 1", "stand -", "at 1", "paid 0"]))

    def test_each_word_left_out_put_in_told_twice_or_spoilt(self):
        chance = random.Random(113)
        for at in range(4):
            words = LINES[at].split(" ")
            for number in range(len(words)):
                others = [words[:number] + words[number + 1:], words[:number] + ["?"] + words[number:],
                          words[:number + 1] + words[number:], words[:number] + [words[number] + "?"] + words[number + 1:],
                          words[:number] + [words[number].replace(",", "") + "" if "," in words[number]
                                            else words[number] + ","] + words[number + 1:]]
                for other in others:
                    text = "\n".join([*LINES[:at], " ".join(other), *LINES[at + 1:]])
                    with self.assertRaises(ValueError) as caught:
                        read_depot(text)
                    self.assertEqual((type(caught.exception).__name__, caught.exception.line), ("BadText", at))
                    self.assertLessEqual(caught.exception.word, max(number + 1, len(other)))
        for _ in range(300):
            at = chance.randrange(len(TEXT))
            text = TEXT[:at] + chance.choice("a1 ,>\n-0") + TEXT[at + chance.randint(0, 1):]
            try:
                depot = read_depot(text)
            except ValueError:
                continue
            self.assert_same(depot_text(depot), text)


if __name__ == "__main__":
    unittest.main()
