"""Part F: rows of ends of least cost, and prices that show them."""

import unittest
from itertools import combinations
from random import Random

from risingsheets.prices import least_row, prices_hold
from tests.great import in_time
from tests.values import GREAT, ODD, check_conventions, fresh, plain, put

STRETCHES = ((0, 1, 1), (0, 3, 3), (0, 4, 3), (1, 2, 1), (1, 4, 3), (2, 3, 1), (3, 4, 1), (4, 5, 1))


def drawn_stretches(seed, places, many, dearest):
    """So many stretches in no order, some of them alike but for the cost."""
    drawn = Random(seed)
    found = []
    for _ in range(many if places else 0):
        begin, end = sorted(drawn.sample(range(places + 1), 2))
        found.append((begin, end, drawn.randint(0, dearest)))
        if drawn.randrange(3) == 0:
            found.append((begin, end, drawn.randint(0, dearest)))
    drawn.shuffle(found)
    return tuple(found)


def cost_of_row(stretches, places, ends):
    """The cost of a row of ends, None if ends is none."""
    total = 0
    for begin, end in zip((0,) + ends, ends):
        fees = [fee for each, other, fee in stretches if (each, other) == (begin, end)]
        if not fees:
            return None
        total += min(fees)
    return total if (ends or (0,))[-1] == places else None


def least_of_all(stretches, places):
    """The least cost of all rows of ends, None if there is none."""
    inner = range(1, places)
    rows = [chosen + (places,) for many in range(places) for chosen in combinations(inner, many)] if places else [()]
    costs = [cost_of_row(stretches, places, row) for row in rows]
    return min([each for each in costs if each is not None], default=None)


SMALL = [(drawn_stretches(seed, seed % 8, seed % 13, (0, 1, 3, 10 ** 7)[seed % 4]), seed % 8) for seed in range(400)]


def right_prices(stretches, places, cost, value):
    """Whether a tuple of integers is one of prices with this last one."""
    return (len(value) == places + 1 and value[0] == 0 and value[-1] == cost
            and not [1 for begin, end, fee in stretches if value[end] - value[begin] > fee])


class TestLeastRows(unittest.TestCase):

    def test_against_all_rows_of_ends(self):
        none = 0
        for stretches, places in SMALL:
            with self.subTest(stretches=stretches, places=places):
                told = least_row(stretches, places)
                least = least_of_all(stretches, places)
                if least is None:
                    none += 1
                    self.assertIsNone(told)
                else:
                    ends, cost, prices = told
                    self.assertEqual(cost, least)
                    self.assertEqual(cost_of_row(stretches, places, ends), least)
                    self.assertEqual(list(ends), sorted(set(ends)))
                    self.assertTrue(plain(told))
                    self.assertTrue(right_prices(stretches, places, cost, prices))
                    self.assertIs(prices_hold(stretches, places, cost, prices), True)
        self.assertTrue(100 < none < 300, none)

    def test_the_order_of_stretches_makes_no_difference_to_the_cost(self):
        for stretches, places in SMALL[::5]:
            told = least_row(stretches, places)
            for turned in (stretches[::-1], tuple(sorted(stretches)), stretches * 2):
                self.assertEqual((least_row(turned, places) or (None, None))[1], (told or (None, None))[1])

    def test_no_places(self):
        self.assertEqual(least_row((), 0), ((), 0, (0,)))

    def test_no_row(self):
        self.assertIsNone(least_row((), 1))
        self.assertIsNone(least_row(((1, 2, 0),), 2))
        self.assertIsNone(least_row(((0, 1, 0),), 2))
        self.assertIsNone(least_row(((0, 1, 0), (2, 3, 0)), 3))

    def test_costs_alike_and_dear_and_nothing(self):
        self.assertEqual(least_row(((0, 1, 0), (1, 2, 0)), 2), ((1, 2), 0, (0, 0, 0)))
        self.assertEqual(least_row(((0, 2, 9), (0, 2, 4), (0, 2, 5)), 2)[:2], ((2,), 4))
        self.assertEqual(least_row(((0, 1, 10 ** 7), (1, 2, 10 ** 7), (0, 2, 10 ** 7)), 2)[:2], ((2,), 10 ** 7))
        self.assertEqual(least_row(((0, 1, 10 ** 7), (1, 2, 10 ** 7)), 2)[:2], ((1, 2), 2 * 10 ** 7))

    def test_places_to_which_no_row_leads(self):
        stretches = ((0, 3, 5), (1, 2, 0), (2, 3, 0), (1, 3, 1), (3, 4, 1))
        ends, cost, prices = least_row(stretches, 4)
        self.assertEqual((ends, cost), ((3, 4), 6))
        self.assertTrue(right_prices(stretches, 4, 6, prices))

    def test_four_hundred_places(self):
        for seed, span in ((1, 1), (2, 8), (3, 400)):
            stretches = tuple((begin, end, (end - begin) % 7 + seed) for begin in range(400)
                              for end in range(begin + 1, min(begin + span, 400) + 1))
            with in_time(self, seed):
                ends, cost, prices = least_row(stretches[::-1], 400)
                self.assertIs(prices_hold(stretches, 400, cost, prices), True)
            fees = {(begin, end): fee for begin, end, fee in stretches}
            self.assertEqual(sum(fees[pair] for pair in zip((0,) + ends, ends)), cost)


class TestPrices(unittest.TestCase):

    def test_right_and_spoilt_prices(self):
        for stretches, places in SMALL:
            told = least_row(stretches, places)
            if told is None:
                continue
            _, cost, prices = told
            for place in range(places + 1):
                for value in (prices[place] + 1, prices[place] - 1, prices[place] + 3, -GREAT, GREAT):
                    wrong = put(prices, (place,), value)
                    self.assertIs(prices_hold(stretches, places, cost, wrong),
                                  right_prices(stretches, places, cost, wrong))
                self.assertIs(prices_hold(stretches, places, cost, prices[:place] + prices[place + 1:]), False)
                for value in (str(prices[place]), None, (prices[place],), [prices[place]]):
                    self.assertIs(prices_hold(stretches, places, cost, put(prices, (place,), value)), False)
            self.assertIs(prices_hold(stretches, places, cost, prices + prices[-1:]), False)
            self.assertIs(prices_hold(stretches, places, cost, list(prices)), False)
            self.assertIs(prices_hold(stretches, places, cost + 1, prices), False)
            self.assertIs(prices_hold(stretches, places, cost - 1, prices), False)

    def test_no_row_of_ends_costs_less_than_prices(self):
        drawn = Random(7)
        held = 0
        for stretches, places in SMALL:
            for _ in range(20):
                value = (0,) + tuple(drawn.randint(-2, 4) for _ in range(places))
                right = right_prices(stretches, places, value[-1], value)
                self.assertIs(prices_hold(stretches, places, value[-1], value), right)
                held += right
                least = least_of_all(stretches, places) if right and places < 6 else None
                if least is not None:
                    self.assertLessEqual(value[-1], least)
        self.assertGreater(held, 300)

    def test_true_is_no_price(self):
        self.assertIs(prices_hold(((0, 1, 1),), 1, 1, (0, 1)), True)
        self.assertIs(prices_hold(((0, 1, 1),), 1, 1, (0, True)), False)
        self.assertIs(prices_hold(((0, 1, 1),), 1, 1, (False, 1)), False)
        self.assertIs(prices_hold((), 0, 0, (False,)), False)

    def test_the_first_price(self):
        self.assertIs(prices_hold((), 1, 5, (1, 5)), False)
        self.assertIs(prices_hold((), 0, 1, (1,)), False)
        self.assertIs(prices_hold((), 0, 0, (0,)), True)
        self.assertIs(prices_hold((), 0, 0, ()), False)
        self.assertIs(prices_hold((), 0, 0, (0, 0)), False)

    def test_without_stretches_any_integers_are_prices(self):
        for value in ((0, -5, 7), (0, GREAT, 7), (0, 7, 7)):
            self.assertIs(prices_hold((), 2, 7, value), True)

    def test_any_values(self):
        for value in ODD:
            self.assertIs(prices_hold(STRETCHES, 5, 4, value), False)
            self.assertIs(prices_hold(STRETCHES, 5, 4, fresh(value)), False)
            self.assertIs(prices_hold((), 0, 0, value), False)
            self.assertIs(prices_hold((), 0, 0, (value,)), False)


class TestConventions(unittest.TestCase):

    def test_functions_of_prices(self):
        for stretches, places in SMALL[::20]:
            check_conventions(self, least_row, stretches=stretches, places=places)
            told = least_row(stretches, places)
            if told is not None:
                check_conventions(self, prices_hold, stretches=stretches, places=places, cost=told[1], value=told[2])
        for value in ODD:
            check_conventions(self, prices_hold, stretches=STRETCHES, places=5, cost=4, value=value)


if __name__ == "__main__":
    unittest.main()
