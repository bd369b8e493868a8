"""Points 7, 8 and 9: what comers and houses would rather have, and fair places."""

import inspect
import unittest

from choosehall.houses import House
from choosehall.looking import both_rather, fair, held, rather
from worlds import all_places, fair_by_hand, pairs_by_hand, plain_house, random_world


def keeping_house(seats, kept, opened, points, kinds):
    # The kept seats are for kind 1, and the lesser number parts equal points.
    return House(seats, kept, 1, opened, points, kinds, list(range(len(points))))


class Interface(unittest.TestCase):
    def test_arguments(self):
        self.assertEqual(list(inspect.signature(held).parameters), ["places", "house"])
        self.assertEqual(list(inspect.signature(rather).parameters), ["wishes", "places", "comer"])
        self.assertEqual(list(inspect.signature(both_rather).parameters), ["wishes", "houses", "places"])
        self.assertEqual(list(inspect.signature(fair).parameters), ["wishes", "houses", "places"])


class Held(unittest.TestCase):
    def test_rising(self):
        self.assertEqual(held([1, 0, 1, 0, 1], 1), [0, 2, 4])
        self.assertEqual(held([1, 0, 1, 0, 1], 0), [1, 3])

    def test_a_house_that_holds_none(self):
        self.assertEqual(held([1, 0, 1], 2), [])
        self.assertEqual(held([None, None], 0), [])
        self.assertEqual(held([], 0), [])

    def test_none_among_the_places(self):
        self.assertEqual(held([None, 0, None, 0, 3], 0), [1, 3])
        self.assertEqual(held([None, 0, None, 0, 3], 3), [4])

    def test_at_the_bounds_and_beyond(self):
        self.assertEqual(held([7] * 24, 7), list(range(24)))
        self.assertEqual(held([9] * 30, 9), list(range(30)))


class Rather(unittest.TestCase):
    ROW = [4, 0, 7, 2]

    def test_a_place_that_stands_first(self):
        self.assertEqual(rather([self.ROW], [4], 0), [])

    def test_a_place_in_the_middle(self):
        self.assertEqual(rather([self.ROW], [0], 0), [4])
        self.assertEqual(rather([self.ROW], [7], 0), [4, 0])

    def test_a_place_that_stands_last(self):
        self.assertEqual(rather([self.ROW], [2], 0), [4, 0, 7])

    def test_no_place(self):
        self.assertEqual(rather([self.ROW], [None], 0), [4, 0, 7, 2])

    def test_a_place_that_is_none_of_its_wishes(self):
        self.assertEqual(rather([self.ROW], [1], 0), [4, 0, 7, 2])
        self.assertEqual(rather([self.ROW], [3], 0), [4, 0, 7, 2])

    def test_no_wishes(self):
        self.assertEqual(rather([[]], [None], 0), [])
        self.assertEqual(rather([[]], [0], 0), [])

    def test_the_comer_that_is_asked_of(self):
        wishes = [[0, 1], [1, 0], [2, 1, 0]]
        places = [1, 1, 0]
        self.assertEqual([rather(wishes, places, comer) for comer in range(3)], [[0], [], [2, 1]])

    def test_houses_do_not_count(self):
        # Whether the house would take it is not asked here: there is no house to ask.
        self.assertEqual(rather([[0, 1, 2, 3, 4, 5, 6, 7, 8]], [8], 0), [0, 1, 2, 3, 4, 5, 6, 7])


class BothRather(unittest.TestCase):
    def test_a_seat_is_left(self):
        houses = [plain_house(2, [1, 1])]
        self.assertEqual(both_rather([[0], [0]], houses, [0, None]), [(1, 0)])
        self.assertEqual(both_rather([[0], [0]], houses, [None, None]), [(0, 0), (1, 0)])
        self.assertEqual(both_rather([[0], [0]], houses, [0, 0]), [])

    def test_the_house_would_send_another_one_away(self):
        houses = [plain_house(1, [5, 6])]
        self.assertEqual(both_rather([[0], [0]], houses, [0, None]), [(1, 0)])
        self.assertEqual(both_rather([[0], [0]], houses, [None, 0]), [])

    def test_ties_by_the_told_row(self):
        self.assertEqual(both_rather([[0], [0]], [plain_house(1, [5, 5], [1, 0])], [0, None]), [(1, 0)])
        self.assertEqual(both_rather([[0], [0]], [plain_house(1, [5, 5], [0, 1])], [0, None]), [])

    def test_points_none(self):
        houses = [plain_house(5, [None, 0])]
        self.assertEqual(both_rather([[0], [0]], houses, [None, None]), [(1, 0)])
        # A house that holds one for whom it has None would have another in its stead.
        self.assertEqual(both_rather([[0], [0]], [plain_house(1, [None, 0])], [0, None]), [(1, 0)])

    def test_no_seats(self):
        self.assertEqual(both_rather([[0], [0]], [plain_house(0, [3, 4])], [None, None]), [])

    def test_kept_seats_that_are_open_to_the_others(self):
        wishes = [[0], [0], [0]]
        opened = [keeping_house(2, 1, True, [9, 8, 7], [0, 0, 1])]
        self.assertEqual(both_rather(wishes, opened, [0, None, None]), [(1, 0), (2, 0)])
        # One of the kind takes the kept seat, whoever sits there.
        self.assertEqual(both_rather(wishes, opened, [0, 0, None]), [(2, 0)])
        self.assertEqual(both_rather(wishes, opened, [0, None, 0]), [])

    def test_kept_seats_that_are_not_open_to_the_others(self):
        wishes = [[0], [0], [0]]
        closed = [keeping_house(2, 1, False, [9, 8, 7], [0, 0, 1])]
        self.assertEqual(both_rather(wishes, closed, [0, None, None]), [(2, 0)])
        self.assertEqual(both_rather(wishes, closed, [None, 0, None]), [(0, 0), (2, 0)])
        self.assertEqual(both_rather(wishes, closed, [0, None, 0]), [])

    def test_out_of_those_that_it_holds_and_that_comer_alone(self):
        # Both lack a place and either by itself would be taken: others that would rather have it do not count.
        self.assertEqual(both_rather([[0], [0]], [plain_house(1, [1, 2])], [None, None]), [(0, 0), (1, 0)])

    def test_a_comer_that_has_a_better_place(self):
        houses = [plain_house(1, [1, 1]), plain_house(1, [1, 1])]
        self.assertEqual(both_rather([[1, 0], [0, 1]], houses, [1, 0]), [])
        self.assertEqual(both_rather([[1, 0], []], houses, [0, None]), [(0, 1)])

    def test_a_house_that_is_no_wish(self):
        self.assertEqual(both_rather([[], [1]], [plain_house(9, [1, 1])] * 2, [None, 1]), [])

    def test_a_place_that_is_none_of_the_wishes(self):
        houses = [plain_house(1, [1, 1]), plain_house(1, [1, 1]), plain_house(0, [1, 1])]
        self.assertEqual(both_rather([[2, 1], []], houses, [0, None]), [(0, 1)])

    def test_order_of_the_pairs(self):
        houses = [plain_house(3, [1, 1, 1]), plain_house(3, [1, 1, 1]), plain_house(3, [1, 1, 1])]
        pairs = both_rather([[2, 0, 1], [], [1, 0]], houses, [None, None, 0])
        self.assertEqual(pairs, [(0, 2), (0, 0), (0, 1), (2, 1)])
        self.assertEqual([type(pair) for pair in pairs], [tuple] * 4)
        self.assertIs(type(pairs), list)

    def test_an_empty_list(self):
        pairs = both_rather([[], []], [plain_house(3, [1, 1])], [None, None])
        self.assertEqual(pairs, [])
        self.assertIs(type(pairs), list)


class Fair(unittest.TestCase):
    def assert_fair(self, due, wishes, houses, places):
        self.assertIs(fair(wishes, houses, places), due)

    def test_true(self):
        houses = [plain_house(1, [2, 1]), plain_house(1, [1, 2])]
        self.assert_fair(True, [[0, 1], [0, 1]], houses, [0, 1])
        self.assert_fair(True, [[1, 0], [0, 1]], houses, [1, 0])
        self.assert_fair(True, [[1, 0], [0, 1]], houses, [0, 1])

    def test_nobody_wishes(self):
        self.assert_fair(True, [[], []], [plain_house(2, [1, 1])], [None, None])

    def test_a_place_that_is_none_of_the_wishes(self):
        # The house chooses all that it holds, and no other house is wished for.
        self.assert_fair(False, [[]], [plain_house(1, [1])], [0])
        self.assert_fair(False, [[0]], [plain_house(0, [1]), plain_house(1, [1])], [1])

    def test_too_many_in_a_house(self):
        self.assert_fair(False, [[0], [0]], [plain_house(1, [1, 2])], [0, 0])
        self.assert_fair(False, [[0]], [plain_house(0, [1])], [0])
        self.assert_fair(True, [[0], [0]], [plain_house(2, [1, 2])], [0, 0])

    def test_a_comer_with_none_in_a_house(self):
        self.assert_fair(False, [[0]], [plain_house(1, [None])], [0])
        self.assert_fair(True, [[0]], [plain_house(1, [None])], [None])

    def test_kept_seats_that_are_not_chosen_so(self):
        self.assert_fair(False, [[0], [0]], [keeping_house(2, 1, False, [1, 1], [0, 0])], [0, 0])
        self.assert_fair(True, [[0], [0]], [keeping_house(2, 1, True, [1, 1], [0, 0])], [0, 0])
        self.assert_fair(True, [[0], [0]], [keeping_house(2, 1, False, [1, 1], [0, 1])], [0, 0])
        self.assert_fair(True, [[0], [0]], [keeping_house(2, 1, False, [1, 1], [0, 0])], [0, None])

    def test_the_last_house_counts_too(self):
        houses = [plain_house(1, [1, 1]), plain_house(1, [1, 1])]
        self.assert_fair(False, [[1], [1]], houses, [1, 1])
        self.assert_fair(False, [[0], [0]], houses, [0, 0])

    def test_a_pair_that_would_both_rather(self):
        self.assert_fair(False, [[0]], [plain_house(1, [1])], [None])
        self.assert_fair(False, [[0], [0]], [plain_house(1, [1, 2])], [0, None])
        self.assert_fair(True, [[0], [0]], [plain_house(1, [1, 2])], [None, 0])
        self.assert_fair(False, [[1, 0]], [plain_house(1, [1]), plain_house(1, [1])], [0])

    def test_at_the_bounds(self):
        houses = [plain_house(3, [1000000] * 24) for house in range(8)]
        wishes = [[house] + [other for other in range(8) if other != house] for house in range(8)] * 3
        self.assert_fair(True, wishes, houses, list(range(8)) * 3)
        self.assert_fair(False, wishes, houses, list(range(8)) * 2 + list(range(1, 8)) + [None])

    def test_somewhat_beyond_the_bounds(self):
        houses = [plain_house(30, [1000001] * 26) for house in range(10)]
        self.assert_fair(True, [[9]] * 26, houses, [9] * 26)
        self.assert_fair(False, [[9]] * 26, houses, [9] * 25 + [None])


class AllPlaces(unittest.TestCase):
    """Every row of places of some small worlds, fair or not, as told by hand."""

    def test_as_told_by_hand(self):
        for number in range(60):
            world = random_world(number, 4, 3)
            for places in all_places(4, 3):
                told = (number, world, places)
                self.assertEqual(both_rather(world.wishes, world.houses, places), pairs_by_hand(world, places), told)
                self.assertIs(fair(world.wishes, world.houses, places), fair_by_hand(world, places), told)


if __name__ == "__main__":
    unittest.main()
