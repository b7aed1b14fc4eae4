"""The examples of the document, as they stand there."""

import unittest

from checks import FIELDS, Case
from emptypulls import errors

RATES = '''
>>> from emptypulls.rates import Rate
>>> half = Rate(1, 2)
>>> [str(Rate(6, -4)), str(half + 3), str(2 - half), str(half.over(3)), half < 1, 1 > half, Rate(4, 2) == 2, str(Rate.total([half, 1, half]))]
['-3/2', '7/2', '3/2', '1/6', True, True, True, '2']
>>> Rate.read("6/4")
raises BadText(0, 0)
'''
TRIPS = '''
>>> from emptypulls.trips import Trip
>>> [str(~Trip("a", "b", 5)), Trip.read("a>b 5") == Trip("a", "b", 5), Trip("b", "a").price, Trip("a", "b").touches("c")]
['b>a 5', True, 1, False]
>>> Trip("a", "a", -1)
raises BadTrip('goal')
'''
TOURS = '''
>>> from emptypulls.tours import Tour
>>> both, ring = Tour.there_and_back("a", "b", 5), Tour.around("a", "b", "c")
>>> [str(both), str(both + ~both), both.whole_price, str(ring >> 4), ring[1] == Trip("b", "c"), len(both * 3), both.yards]
['a>b 5, b>a 1', 'a>b 5, b>a 1, a>b 1, b>a 5', 6, 'b>c 1, c>a 1, a>b 1', True, 6, ('a', 'b')]
>>> star = both.priced([1, 1]) + Tour.there_and_back("a", "c")
>>> [str(both | Tour.there_and_back("a", "c")), len(ring[1:]), Trip("b", "a") in both, Tour.read("a>b 5, b>a 1") == both]
['a>b 5, a>c 1, b>a 1, c>a 1', 2, True, True]
>>> Tour(Trip("a", "b"), Trip("b", "c"))
raises Unbalanced('a')
>>> Tour.read("a>b 5 b>a 1")
raises BadText(0, 1)
'''


def steps_of(text):
    """The pairs of a line of code and the line that tells what comes of it, or None."""
    steps = []
    for line in text.strip().splitlines():
        if line.startswith(">>> "):
            steps.append([line[4:], None])
        else:
            steps[-1][1] = line
    return steps


class ExampleTest(Case):
    # Later examples use the names that earlier ones have bound.
    names = {}

    def look(self, text):
        for code, answer in steps_of(text):
            with self.subTest(code):
                if answer is None:
                    exec(code, self.names)
                elif answer.startswith("raises "):
                    told = eval(answer.removeprefix("raises "), dict(vars(errors)))
                    name = type(told).__name__
                    fields = [getattr(told, field) for field in FIELDS[name]]
                    self.assert_raises(name, fields, eval, code, self.names)
                else:
                    self.assertEqual(repr(eval(code, self.names)), answer)

    def test_all_in_the_order_of_the_document(self):
        for text in (RATES, TRIPS, TOURS):
            self.look(text)


if __name__ == "__main__":
    unittest.main()
