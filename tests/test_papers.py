"""Points 11 and 12: a comer's paper and a house's waiting row."""

import inspect
import unittest

from choosehall.houses import House
from choosehall.papers import paper, waiting
from worlds import all_places, first_ranked, plain_house, random_world, worth


class Paper(unittest.TestCase):
    WISHES = [[2, 0, 1], [0], [1, 2], [], [0, 2]]
    PLACES = [1, 0, 2, None, 0]

    def test_arguments(self):
        self.assertEqual(list(inspect.signature(paper).parameters), ["wishes", "places", "comer"])

    def test_in_the_order_of_the_wishes(self):
        self.assertEqual(paper(self.WISHES, self.PLACES, 0), [(2, [2]), (0, [1, 4])])
        self.assertEqual(paper(self.WISHES, self.PLACES, 2), [(1, [0])])

    def test_pairs_are_tuples_of_a_house_and_a_list(self):
        told = paper(self.WISHES, self.PLACES, 0)
        self.assertIs(type(told), list)
        self.assertEqual([type(pair) for pair in told], [tuple, tuple])
        self.assertEqual([type(pair[1]) for pair in told], [list, list])

    def test_those_that_a_house_holds_rise(self):
        self.assertEqual(paper([[0]] + [[]] * 5, [None, 0, 1, 0, None, 0], 0), [(0, [1, 3, 5])])

    def test_a_house_that_holds_none(self):
        self.assertEqual(paper([[1, 0]], [None], 0), [(1, []), (0, [])])

    def test_the_first_wish_is_had(self):
        self.assertEqual(paper(self.WISHES, self.PLACES, 1), [])
        self.assertEqual(paper(self.WISHES, self.PLACES, 4), [])

    def test_no_wishes(self):
        self.assertEqual(paper(self.WISHES, self.PLACES, 3), [])

    def test_no_place(self):
        self.assertEqual(paper([[0, 1], [1]], [None, 1], 0), [(0, []), (1, [1])])

    def test_a_place_that_is_none_of_the_wishes(self):
        self.assertEqual(paper([[0, 1], [1]], [2, 1], 0), [(0, []), (1, [1])])

    def test_at_the_bounds_and_beyond(self):
        self.assertEqual(paper([[7, 0]] * 24, [0] + [7] * 23, 0), [(7, list(range(1, 24)))])
        self.assertEqual(paper([[9, 0]] * 30, [0] + [9] * 29, 0), [(9, list(range(1, 30)))])


class Waiting(unittest.TestCase):
    def test_arguments(self):
        self.assertEqual(list(inspect.signature(waiting).parameters), ["wishes", "houses", "places", "house"])

    def test_the_first_ranked_ahead(self):
        houses = [plain_house(0, [3, 9, 0, 5])]
        self.assertEqual(waiting([[0]] * 4, houses, [None] * 4, 0), [1, 3, 0, 2])

    def test_ties_by_the_told_row(self):
        houses = [plain_house(0, [4, 4, 7, 4], [3, 0, 1, 2])]
        self.assertEqual(waiting([[0]] * 4, houses, [None] * 4, 0), [2, 3, 0, 1])

    def test_those_with_none_are_left_out(self):
        houses = [plain_house(0, [None, 0, None, 1])]
        self.assertEqual(waiting([[0]] * 4, houses, [None] * 4, 0), [3, 1])
        self.assertEqual(waiting([[0], [], [0], []], houses, [None] * 4, 0), [])

    def test_only_those_that_would_rather_have_it(self):
        houses = [plain_house(1, [1, 2, 3, 4, 5]), plain_house(5, [1] * 5)]
        wishes = [[0, 1], [1, 0], [0], [1], [0, 1]]
        self.assertEqual(waiting(wishes, houses, [1, 1, 0, None, None], 0), [4, 0])
        self.assertEqual(waiting(wishes, houses, [1, 0, 0, None, None], 1), [1, 3, 4])

    def test_one_whose_place_is_none_of_its_wishes(self):
        houses = [plain_house(1, [1, 2]), plain_house(1, [1, 2])]
        self.assertEqual(waiting([[0], [0]], houses, [1, None], 0), [1, 0])

    def test_those_that_it_would_not_choose_wait_too(self):
        houses = [House(1, 1, 1, False, [5, 7, 6], [1, 0, 1], [0, 1, 2])]
        self.assertEqual(waiting([[0]] * 3, houses, [None, None, 0], 0), [1, 0])

    def test_nobody_waits(self):
        told = waiting([[0], []], [plain_house(1, [1, 1])], [0, None], 0)
        self.assertEqual(told, [])
        self.assertIs(type(told), list)

    def test_the_house_that_is_asked_of(self):
        houses = [plain_house(0, [1, 2]), plain_house(0, [2, 1])]
        wishes = [[0, 1], [1, 0]]
        self.assertEqual(waiting(wishes, houses, [None, None], 0), [1, 0])
        self.assertEqual(waiting(wishes, houses, [None, None], 1), [0, 1])

    def test_at_the_bounds_and_beyond(self):
        houses = [plain_house(0, list(range(30)))] * 10
        self.assertEqual(waiting([[9]] * 30, houses, [None] * 30, 9), list(range(29, -1, -1)))


class AllPlaces(unittest.TestCase):
    """Every row of places of some small worlds, fair or not, as told by hand."""

    def assert_paper(self, world, places, comer):
        row = world.wishes[comer]
        ahead = [house for house in row if worth(row, house) < worth(row, places[comer])]
        due = [(house, [other for other in range(len(places)) if places[other] == house]) for house in ahead]
        self.assertEqual(paper(world.wishes, places, comer), due, (world, places, comer))

    def assert_waiting(self, world, places, house):
        told = world.tolds[house]
        left = [
            comer for comer, row in enumerate(world.wishes)
            if house in row and worth(row, house) < worth(row, places[comer]) and told[4][comer] is not None
        ]
        due = []
        while left:
            due.append(first_ranked(told, left))
            left.remove(due[-1])
        self.assertEqual(waiting(world.wishes, world.houses, places, house), due, (world, places, house))

    def test_as_told_by_hand(self):
        for number in range(30):
            world = random_world(number, 4, 3)
            for places in all_places(4, 3):
                for comer in range(4):
                    self.assert_paper(world, places, comer)
                for house in range(3):
                    self.assert_waiting(world, places, house)


if __name__ == "__main__":
    unittest.main()
