"""What the searches through all histories stand on: orders of amounts, plans, the fewest deeds."""

import random
import unittest
from itertools import product

from lastshown.books import Book
from lastshown.histories import CEILING, amount_at, told
from lastshown.orders import HOLDINGS, in_order, new_spots, settled, spots
from lastshown.plays import play
from lastshown.rules import carried_out
from lastshown.searches import END, fewest
from tests.brute import carried
from tests.oracle import ACTIONS


class Roads:
    """A search through roads from town to town."""

    def __init__(self, roads, left):
        self.roads = roads
        self.far = left

    def left(self, town):
        return self.far.get(town, 1)

    def moves(self, town, last):
        return [((town, to), to) for to in self.roads.get(town, "")]


class TestRules(unittest.TestCase):
    def test_all_rules_of_at_most_three_actions(self):
        for many in range(4):
            for rule in product(ACTIONS, repeat=many):
                for price, kept, shown in product((0, 1, 2), (0, 1, 2), (None, 0, 1, 2)):
                    kept_behind, shown_behind, highest, asks = carried_out(rule, price, kept, shown)
                    self.assertEqual((kept_behind, shown_behind, asks), carried(rule, price, kept, shown))
                    ways = [carried(rule[:at + 1], price, kept, shown)[1] for at in range(many)
                            if rule[at] in ("show", "ask")]
                    self.assertEqual(highest, max(ways, default=0))


class TestOrders(unittest.TestCase):
    def test_in_order(self):
        self.assertEqual(in_order([5, None, 1, 5, 3]), [1, 3, 5])
        self.assertEqual(in_order([]), [])

    def test_settled_keeps_the_order(self):
        for price, *held in product((0, 1, 5, 10 ** 12), (0, 5, 7), (0, 5, 7), (None, 0, 5, 7)):
            spot, places = settled(price, tuple(held))
            before, after = [price, *held], [spot, *places]
            for (one, two), (low, high) in zip(product(before, before), product(after, after)):
                if one is None or two is None:
                    self.assertTrue(one is low or two is high)
                else:
                    self.assertEqual((one < two, one == two), (low < high, low == high))

    def test_settled_amounts_stay_as_they_are(self):
        for held in (*HOLDINGS, (2, 2, 2), (2, 4, 6), (6, 2, None), (4, 4, 2)):
            for price in spots(held):
                if None not in held or len(in_order(held)) * 2 == max(in_order(held)):
                    self.assertEqual(settled(price, held), (price, held))

    def test_spots(self):
        self.assertEqual(spots((2, None)), [1, 2, 3])
        self.assertEqual(spots((2, 4)), [1, 2, 3, 4, 5])
        self.assertEqual(new_spots((4, 2, 4)), [1, 3, 5])
        self.assertEqual(new_spots((2, 2)), [1, 3])


class TestPlans(unittest.TestCase):
    def test_an_amount_at_a_spot_is_new_or_one_that_is_held(self):
        used = [100, 50, 75, 60]
        self.assertEqual([amount_at(spot, [50, 75], used) for spot in (2, 4)], [50, 75])
        self.assertEqual([amount_at(spot, [50, 75], used) for spot in (1, 3)], [25, 55])
        self.assertEqual(amount_at(5, [50, 75], used), 87)
        self.assertEqual(amount_at(3, [100], used), (100 + CEILING) // 2)
        self.assertEqual(amount_at(1, [], used), 25)

    def test_a_plan_is_told_with_small_amounts(self):
        book = Book(put=("show",), look=("take", "show"))
        plan = [("put", "a", 1), ("price", "a", 1), ("look",), ("price", "a", 3), ("put", "b", 1), ("price", "b", 2),
                ("price", "a", 1)]
        prices, deeds = told([book], plan)
        self.assertEqual(prices, (("a", 4), ("b", 1)))
        self.assertEqual(deeds, [("put", "a", 1), ("price", "a", 2), ("look",), ("price", "a", 3), ("put", "b", 1),
                                 ("price", "b", 1), ("price", "a", 1)])
        self.assertEqual(len(play(book, prices, deeds)), len(plan))

    def test_each_new_price_can_halve_the_distance(self):
        many = 97
        plan = [("put", "a", 1)] + [("price", "a", 1), ("look",)] * many
        prices, deeds = told([Book(look=("take",))], plan)
        self.assertEqual(prices, (("a", many + 1),))
        self.assertEqual([deed[2] for deed in deeds if deed[0] == "price"], list(range(many, 0, -1)))


class TestFewest(unittest.TestCase):
    def test_roads(self):
        roads = {"a": "bc", "b": "d", "c": "d", "d": ["e", END]}
        self.assertEqual(len(fewest(Roads(roads, {}), "a")), 3)
        self.assertEqual(fewest(Roads({"a": [END]}, {}), "a"), [("a", END)])
        self.assertIsNone(fewest(Roads({"a": "b", "b": "a"}, {}), "a"))

    def test_a_shorter_way_that_is_found_later(self):
        # The way over b looks shorter at first, so that d is met over it, too late.
        roads = {"a": "bc", "b": "x", "x": "d", "c": "d", "d": "e", "e": [END]}
        self.assertEqual([step[0] for step in fewest(Roads(roads, {"c": 3}), "a")], ["a", "c", "d", "e"])

    def test_random_roads(self):
        choose = random.Random(71)
        for _ in range(300):
            towns = range(choose.randint(2, 12))
            roads = {town: [choose.choice([*towns, END]) if choose.random() < 0.2 else choose.choice(towns)
                            for _ in range(choose.randint(0, 3))] for town in towns}
            far = {END: 0}
            for _ in towns:
                for town in towns:
                    ways = [far[to] + 1 for to in roads[town] if to in far]
                    if ways:
                        far[town] = min([*ways, far.get(town, 99)])
            left = {town: choose.randint(1, far.get(town, 5)) for town in towns}
            found = fewest(Roads(roads, left), 0)
            self.assertEqual(found and len(found), far.get(0))


if __name__ == "__main__":
    unittest.main()
