"""A desk, at which lines of words are asked."""

from emptypulls.arguments import MOST_LOADS, MOST_SPARES
from emptypulls.depots import Depot
from emptypulls.digits import is_number_word, number_text
from emptypulls.errors import BadLine, NoDeed, NoDepot, Strands
from emptypulls.games import least_price, price_from
from emptypulls.kinds import is_name
from emptypulls.known import endless_price, known_price
from emptypulls.lines import wrong_tour_part
from emptypulls.orders import greatest_rising
from emptypulls.rules import Always, Fullest, Guarded, Never, worst
from emptypulls.stands import need
from emptypulls.tours import Tour

OK = "ok"
# What stands behind the first word of a line.
TOUR = "a tour"
NAME = "a name"
MANY = "a number of trailers"
NUMBER = "a number of spares"
LOADS = "a row of loads"
RULE = "a rule"
FORMS = {
    "open": (TOUR,), "rising": (TOUR,), "load": (), "pull": (), "leave": (), "put": (NAME, MANY), "tour": (TOUR,),
    "undo": (), "show": (), "need": (), "spares": (), "price": (), "least": (NUMBER,), "known": (LOADS, NUMBER),
    "endless": (LOADS,), "worst": (RULE,),
}
RULES = ("always", "never", "fullest", "guarded")
MOST_DIGITS = 9


def wrong_word(words):
    """The index of the first word of a line that cannot stand or is missing; None if all fit."""
    if words[0] not in FORMS:
        return 0
    form = FORMS[words[0]]
    if form == (TOUR,):
        return wrong_tour_part(words)
    for at, part in enumerate(form, start=1):
        if at == len(words) or not can_stand(part, words[at]):
            return at
    return len(form) + 1 if len(words) > len(form) + 1 else None


def can_stand(part, word):
    """Whether a word is what stands at its place in a line."""
    if part == NAME:
        return is_name(word)
    if part == MANY:
        return is_number_word(word, MOST_DIGITS)
    if part == NUMBER:
        return word in [str(number) for number in range(MOST_SPARES + 1)]
    if part == LOADS:
        return 1 <= len(word) <= MOST_LOADS and all([letter in "ln" for letter in word])
    return word in RULES


def tour_of(words):
    """The tour that stands behind the first word."""
    return Tour.read(" ".join(words[1:]))


def loads_of_word(word):
    """The row of loads that a word tells."""
    return tuple([letter == "l" for letter in word])


def word_of_loads(loads):
    """The word that tells a row of loads."""
    return "".join(["l" if load else "n" for load in loads])


def rule_of(word):
    """The rule that a word tells."""
    if word == "always":
        return Always()
    if word == "never":
        return Never()
    if word == "fullest":
        return Fullest()
    return Guarded(Fullest())


def tour_ahead(depot):
    """The tour that begins with the next trip."""
    return depot.tour_now >> depot.next_index


def drive_line(depot, words):
    return number_text(depot.drive(words[0]))


def put_line(depot, words):
    depot.put(words[1], int(words[2]))
    return OK


def tour_line(depot, words):
    depot.set_tour(tour_of(words))
    return OK


def undo_line(depot, words):
    try:
        return depot.undo()
    except NoDeed:
        return "nothing"


def show_line(depot, words):
    return f"{depot.stand_now} at {depot.next_index} paid {number_text(depot.paid)}"


def need_line(depot, words):
    return str(need(tour_ahead(depot)))


def spares_line(depot, words):
    return str(depot.spares_now())


def price_line(depot, words):
    return str(price_from(tour_ahead(depot), depot.stand_now).rate)


def least_line(depot, words):
    return str(least_price(depot.tour_now, int(words[1])).rate)


def known_line(depot, words):
    return str(known_price(depot.tour_now, loads_of_word(words[1]), int(words[2])).rate)


def endless_line(depot, words):
    return str(endless_price(depot.tour_now, loads_of_word(words[1])).rate)


def worst_line(depot, words):
    try:
        return str(worst(tour_ahead(depot), rule_of(words[1]), depot.stand_now).rate)
    except Strands as stranding:
        return f"strands {word_of_loads(stranding.loads)}"


# What answers the lines that need a depot.
ANSWERS = {
    "load": drive_line, "pull": drive_line, "leave": drive_line, "put": put_line, "tour": tour_line,
    "undo": undo_line, "show": show_line, "need": need_line, "spares": spares_line, "price": price_line,
    "least": least_line, "known": known_line, "endless": endless_line, "worst": worst_line,
}


def rising_answer(tour):
    """The greatest rising sum and its first order."""
    paper = greatest_rising(tour)
    return " ".join([number_text(paper.number), *paper.order])


class Desk:
    """A desk, with a depot as soon as one was opened."""

    def __init__(self):
        self._depot = None

    def ask(self, line):
        """Does what a line tells and returns the answer, a string."""
        words = line.split(" ") if isinstance(line, str) else [""]
        wrong = wrong_word(words)
        if wrong is not None:
            raise BadLine(wrong)
        if words[0] == "rising":
            return rising_answer(tour_of(words))
        if words[0] == "open":
            tour = tour_of(words)
            self._depot = Depot(tour, need(tour))
            return OK
        if self._depot is None:
            raise NoDepot()
        answer = ANSWERS[words[0]]
        return answer(self._depot, words)

    def __call__(self, line):
        return self.ask(line)

    def run(self, *lines):
        """The answers to several lines, all of which are done, or none."""
        tried = Desk()
        tried._depot = None if self._depot is None else self._depot.branch()
        answers = [tried.ask(line) for line in lines]
        self._depot = tried._depot
        return answers

    def depot_now(self):
        """A twin of the depot; None if there is none."""
        if self._depot is None:
            return None
        return self._depot.twin()
