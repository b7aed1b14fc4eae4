"""The examples of the document, as they stand there."""

import unittest

from checks import FIELDS, Case
from emptypulls import errors

RATES = '''
>>> from emptypulls.rates import Rate
>>> half = Rate(1, 2)
>>> [str(Rate(6, -4)), str(half + 3), str(2 - half), str(half.over(3)), half < 1, 1 > half, Rate(4, 2) == 2, str(Rate.total([half, 1, half]))]
['-3/2', '7/2', '3/2', '1/6', True, True, True, '2']
>>> Rate.read("6/4")
raises BadText(0, 0)
'''
TRIPS = '''
>>> from emptypulls.trips import Trip
>>> [str(~Trip("a", "b", 5)), Trip.read("a>b 5") == Trip("a", "b", 5), Trip("b", "a").price, Trip("a", "b").touches("c")]
['b>a 5', True, 1, False]
>>> Trip("a", "a", -1)
raises BadTrip('goal')
'''
TOURS = '''
>>> from emptypulls.tours import Tour
>>> both, ring = Tour.there_and_back("a", "b", 5), Tour.around("a", "b", "c")
>>> [str(both), str(both + ~both), both.whole_price, str(ring >> 4), ring[1] == Trip("b", "c"), len(both * 3), both.yards]
['a>b 5, b>a 1', 'a>b 5, b>a 1, a>b 1, b>a 5', 6, 'b>c 1, c>a 1, a>b 1', True, 6, ('a', 'b')]
>>> star = both.priced([1, 1]) + Tour.there_and_back("a", "c")
>>> [str(both | Tour.there_and_back("a", "c")), len(ring[1:]), Trip("b", "a") in both, Tour.read("a>b 5, b>a 1") == both]
['a>b 5, a>c 1, b>a 1, c>a 1', 2, True, True]
>>> Tour(Trip("a", "b"), Trip("b", "c"))
raises Unbalanced('a')
>>> Tour.read("a>b 5 b>a 1")
raises BadText(0, 1)
'''
STANDS = '''
>>> from emptypulls.stands import Stand, is_safe, need, place_of, placings, spares, stranding
>>> two = Stand({"a": 1, "b": 1, "c": 0})
>>> [str(two), two["b"], two["c"], two.whole, str(two + two), Stand({"a": 1}) <= two, str(two.moved("a", "b")), str(Stand({}))]
['a 1, b 1', 1, 0, 2, 'a 2, b 2', True, 'b 2', '-']
>>> [str(need(both)), str(need(both >> 1)), str(need(both + both)), str(need(both * 2 >> 1)), str(need(both | both)), str(spares(both, two))]
['a 1', 'b 1', 'a 1', 'b 1', 'a 2', 'b 1']
>>> [stranding(both, Stand({"b": 2})), stranding(both | both, two), is_safe(ring, two), [place_of(ring, one) for one in placings(ring, 1)]]
[(True,), (True, True), True, [(0, 0, 1), (0, 1, 0), (1, 0, 0)]]
>>> Stand.read("b 1, a 2")
raises BadText(0, 2)
'''
DEPOTS = '''
>>> from emptypulls.depots import Depot
>>> depot = Depot(both, two)
>>> [depot.drive("load"), str(depot.stand_now), depot.fair_words(), depot.drive("pull"), depot.laps, depot.paid]
[0, 'b 2', ('load', 'pull'), 1, 1, 1]
>>> [depot.fair_words(), depot.run("leave", "leave"), str(depot.stand_now), str(depot.spares_now()), depot.driven[2:]]
[('load', 'pull', 'leave'), 0, 'a 1, b 1', 'b 1', ('leave', 'leave')]
>>> depot["a"] = 0
>>> [depot["b"], depot.fair_words(), depot.undo(), depot.undo(), depot.next_index, depot.deeds]
[1, ('leave',), 'put', 'run', 0, 2]
>>> depot.run("load", "leave", "load")
raises LeftStanding(0)
'''
ORDERS = '''
>>> from emptypulls.orders import best_orders, common_order, down, greatest_rising, loads_of, rising
>>> [rising(ring, ("c", "a", "b")), down(ring, ["a", "b", "c"]), loads_of(both, ("b", "a")), greatest_rising(both).order, greatest_rising(star).number]
[2, (2,), (True, False), ('a', 'b'), 2]
>>> [list(best_orders(ring)), common_order(ring, ~ring), greatest_rising(ring + ~ring).number, greatest_rising(ring).marks[("a", "c")]]
[[('a', 'b', 'c'), ('b', 'c', 'a'), ('c', 'a', 'b')], None, 3, 1]
'''
KNOWN = '''
>>> from emptypulls.known import endless_price, known_price
>>> [str(known_price(both, [False, False], n).rate) for n in (0, 1)]
['6', '0']
>>> [str(endless_price(both, [False, False]).rate), endless_price(both, [False, False]).left, str(endless_price(ring, (False, False, True)).rate), str(known_price(ring, [False, False, False], 1).rate)]
['0', (0, 1), '2', '3/2']
'''
GAMES = '''
>>> from emptypulls.games import Pressing, Pulling, enough, least_price, price_from
>>> [str(least_price(both, n).rate) for n in (0, 1, 2)], [str(least_price(ring, n).rate) for n in (0, 1)], [str(least_price(star, n).rate) for n in (0, 1, 2)]
(['6', '5', '5'], ['3', '2'], ['4', '3', '2'])
>>> dear = Tour.there_and_back("a", "b", 5, 5) + Tour.there_and_back("a", "c", 1, 5)
>>> [str(price_from(dear, need(dear) + Stand({yard: 1})).rate) for yard in "abc"], enough(star, 6), enough(both, 0), str(price_from(both, two).rate)
(['11', '11', '15'], 2, None, '5')
>>> late = Tour.read("a>b 1, c>b 1, b>c 1, a>c 1, c>a 1, b>a 1")
>>> [str(need(late)), str(least_price(late, 1).rate), greatest_rising(late).number]
['a 2, c 1', '9/2', 3]
>>> price_from(both, Stand({"b": 1}))
raises Unsafe((True,))
'''
RULES = '''
>>> from emptypulls.rules import Always, By, Fullest, Guarded, Levels, Moment, Never, driven_by, stranded, worst
>>> keep = Levels({"a": 1, "b": 1})
>>> [driven_by(both, keep, two, [True, False, False, True, False]), stranded(both, Never(), two), stranded(both, Fullest(), need(both)), str(worst(both, keep, two).rate)]
[('load', 'pull', 'leave', 'load', 'pull'), (True, False, True), (False, False, True), '5']
>>> [str(worst(both, Always(), two).rate), str(worst(both, Guarded(Fullest()), need(both)).rate), str(worst(both, Fullest(), two).rate), keep(Moment(both, 0, two, two)), (Never() | Always())(Moment(both, 0, two, two))]
['6', '6', '5', False, True]
'''
COMPARE = '''
>>> from emptypulls.compare import never_dearer
>>> [bool(never_dearer(both, keep, Always(), two)), never_dearer(both, Always(), keep, two).loads, bool(never_dearer(both, keep, keep, two))]
[True, (False,), True]
'''
SEEN = '''
>>> from emptypulls.seen import Fits, first_stands, unexplained
>>> [first_stands(both, ["load", "none", "load"]) == Fits({"a": 2, "b": 0}, ()), first_stands(both, ["missed", "load"]) == Fits({"a": 0, "b": 1}, ("a",))]
[True, True]
>>> [first_stands(both, ["load", "none", "load"], 3) == Fits({"a": 2, "b": 0}, ()), first_stands(both, ["missed"], 4) == Fits({"a": 0, "b": 4}, ("a", "b")), unexplained(both, ["load", "pull", "missed"])]
[True, True, 2]
'''
LOOKERS = r'''
>>> from emptypulls.lookers import Looker
>>> from emptypulls.orders import Rising
>>> look = Looker(both)
>>> [look.risings(Rising(5, ("a", "b"), {(): 0, ("a",): 0, ("b",): 0, ("a", "b"): 5})), look.strandings((True,), Stand({"b": 3})), look.prices(price_from(both, two), two), look.leasts(least_price(both, 1), 2)]
[True, True, True, False]
'''
TEXTS = r'''
>>> from emptypulls.reader import read_depot
>>> from emptypulls.texts import depot_text
>>> [depot_text(Depot(both, two, 1)), read_depot(depot_text(depot)) == Depot(both, depot.stand_now, 0, 1)]
['tour a>b 5, b>a 1\nstand a 1, b 1\nat 1\npaid 0', True]
>>> read_depot("tour a>b 5, b>a 1\nstand -\nat 2\npaid 0")
raises BadText(2, 1)
'''
DESK = r'''
>>> from emptypulls.desk import Desk
>>> desk = Desk()
>>> desk.run("open a>b 5, b>a 1", "put b 1", "price", "load", "pull", "show", "worst never", "worst always", "least 1", "known nn 1", "undo", "spares", "rising a>b 1, b>a 2")
['ok', 'ok', '5', '0', '1', 'a 1, b 1 at 0 paid 1', 'strands lnl', '6', '5', '0', 'drive', 'b 1', '2 b a']
>>> desk("put a 1,")
raises BadLine(2)
'''


def steps_of(text):
    """The pairs of a line of code and the line that tells what comes of it, or None."""
    steps = []
    for line in text.strip().splitlines():
        if line.startswith(">>> "):
            steps.append([line[4:], None])
        else:
            steps[-1][1] = line
    return steps


class ExampleTest(Case):
    # Later examples use the names that earlier ones have bound.
    names = {}

    def look(self, text):
        for code, answer in steps_of(text):
            with self.subTest(code):
                if answer is None:
                    exec(code, self.names)
                elif answer.startswith("raises "):
                    told = eval(answer.removeprefix("raises "), dict(vars(errors)))
                    name = type(told).__name__
                    fields = [getattr(told, field) for field in FIELDS[name]]
                    self.assert_raises(name, fields, eval, code, self.names)
                else:
                    self.assertEqual(repr(eval(code, self.names)), answer)

    def test_all_in_the_order_of_the_document(self):
        for text in (RATES, TRIPS, TOURS, STANDS, DEPOTS, ORDERS, KNOWN, GAMES, RULES, COMPARE, SEEN, LOOKERS,
                     TEXTS, DESK):
            self.look(text)


if __name__ == "__main__":
    unittest.main()
