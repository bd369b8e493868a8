"""Point 13: a comer goes, a house gets more seats, and places move by steps."""

import inspect
import unittest

from choosehall.asking import granted
from choosehall.houses import House
from choosehall.looking import fair
from choosehall.year import gone, more
from worlds import World, all_fair, fair_by_hand, moved_by_hand, plain_house, random_world, worth


class Interface(unittest.TestCase):
    def test_arguments(self):
        self.assertEqual(list(inspect.signature(gone).parameters), ["wishes", "houses", "places", "comer"])
        self.assertEqual(list(inspect.signature(more).parameters), ["wishes", "houses", "places", "house", "many"])

    def assert_kinds(self, answer):
        self.assertIs(type(answer), tuple)
        self.assertEqual([type(part) for part in answer], [list, list])
        self.assertEqual([type(step) for step in answer[1]], [tuple] * len(answer[1]))

    def test_kinds(self):
        houses = [plain_house(1, [2, 1])]
        self.assert_kinds(gone([[0], [0]], houses, [0, None], 0))
        self.assert_kinds(gone([[0], [0]], houses, [0, None], 1))
        self.assert_kinds(more([[0], [0]], houses, [0, None], 0, 1))
        self.assert_kinds(more([[0], [0]], houses, [0, None], 0, 0))

    def test_new_places_where_nothing_moves(self):
        wishes, houses, places = [[0], [0]], [plain_house(1, [2, 1])], [0, None]
        for now, steps in (gone(wishes, houses, places, 1), more(wishes, houses, places, 0, 0)):
            self.assertEqual((now, steps), ([0, None], []))
            self.assertIsNot(now, places)


class Gone(unittest.TestCase):
    def test_nobody_wants_the_seat(self):
        self.assertEqual(gone([[0], []], [plain_house(1, [1, 1])], [0, None], 0), ([None, None], []))

    def test_one_without_a_place_takes_it(self):
        houses = [plain_house(1, [2, 1])]
        self.assertEqual(gone([[0], [0]], houses, [0, None], 0), ([None, 0], [(1, None, 0)]))

    def test_the_one_that_went_wishes_for_none(self):
        houses = [plain_house(1, [9]), plain_house(1, [9])]
        self.assertEqual(gone([[0, 1]], houses, [0], 0), ([None], []))
        # It would be ranked first for the seat that it left, and for the one that is left behind it.
        houses = [plain_house(1, [9, 1]), plain_house(1, [9, 1])]
        self.assertEqual(gone([[0, 1], [0, 1]], houses, [0, 1], 0), ([None, 0], [(1, 1, 0)]))

    def test_one_without_a_place(self):
        houses = [plain_house(1, [2, 1])]
        self.assertEqual(gone([[0], [0]], houses, [0, None], 1), ([0, None], []))
        self.assertEqual(gone([[0], []], houses, [0, None], 1), ([0, None], []))

    def test_a_chain_of_several_steps(self):
        houses = [plain_house(1, [4, 3, 2, 1]) for house in range(3)]
        wishes = [[0], [0, 1], [1, 2], [2]]
        steps = [(1, 1, 0), (2, 2, 1), (3, None, 2)]
        self.assertEqual(gone(wishes, houses, [0, 1, 2, None], 0), ([None, 0, 1, 2], steps))
        self.assertEqual(gone(wishes, houses, [0, 1, 2, None], 1), ([0, None, 1, 2], steps[1:]))

    def test_a_chain_toward_lesser_numbers(self):
        houses = [plain_house(1, [4, 3, 2, 1]) for house in range(3)]
        wishes = [[2], [2, 1], [1, 0], [0]]
        steps = [(1, 1, 2), (2, 0, 1), (3, None, 0)]
        self.assertEqual(gone(wishes, houses, [2, 1, 0, None], 0), ([None, 2, 1, 0], steps))

    def test_the_first_ranked_takes_the_seat(self):
        wishes = [[0]] * 4
        self.assertEqual(gone(wishes, [plain_house(1, [9, 1, 3, 2])], [0, None, None, None], 0)[1], [(2, None, 0)])
        tied = [plain_house(1, [9, 1, 1, 1], [0, 3, 1, 2])]
        self.assertEqual(gone(wishes, tied, [0, None, None, None], 0)[1], [(3, None, 0)])

    def test_points_none_take_no_seat(self):
        houses = [plain_house(1, [9, None, 1])]
        self.assertEqual(gone([[0]] * 3, houses, [0, None, None], 0), ([None, None, 0], [(2, None, 0)]))
        self.assertEqual(gone([[0], [0], []], houses, [0, None, None], 0), ([None, None, None], []))

    def test_an_open_kept_seat_goes_to_one_of_the_kind(self):
        # 2 alone would be chosen too and is ranked ahead of 3, but out of all that would rather have it 3 is chosen.
        houses = [House(2, 1, 1, True, [9, 5, 8, 1], [0, 1, 0, 1], [0, 1, 2, 3])]
        self.assertEqual(gone([[0]] * 4, houses, [0, 0, None, None], 1), ([0, None, None, 0], [(3, None, 0)]))
        self.assertEqual(gone([[0]] * 3 + [[]], houses, [0, 0, None, None], 1), ([0, None, 0, None], [(2, None, 0)]))

    def test_a_kept_seat_that_is_not_open_to_the_others(self):
        houses = [House(2, 1, 1, False, [9, 5, 8, 1], [0, 1, 0, 1], [0, 1, 2, 3])]
        self.assertEqual(gone([[0]] * 4, houses, [0, 0, None, None], 1), ([0, None, None, 0], [(3, None, 0)]))
        self.assertEqual(gone([[0]] * 3 + [[]], houses, [0, 0, None, None], 1), ([0, None, None, None], []))
        self.assertEqual(gone([[0]] * 4, houses, [0, 0, None, None], 0), ([None, 0, 0, None], [(2, None, 0)]))

    def test_one_of_the_kind_moves_into_the_kept_seat(self):
        # 1 sat on a seat that is not kept; once 0 has gone the kept one counts as its own, and 3 gets the other.
        houses = [House(2, 1, 1, False, [9, 8, 1, 2], [1, 1, 0, 0], [0, 1, 2, 3])]
        self.assertEqual(gone([[0]] * 4, houses, [0, 0, None, None], 0), ([None, 0, None, 0], [(3, None, 0)]))


class More(unittest.TestCase):
    def test_no_more(self):
        houses = [plain_house(1, [3, 2, 1])]
        self.assertEqual(more([[0]] * 3, houses, [0, None, None], 0, 0), ([0, None, None], []))

    def test_some_more(self):
        houses = [plain_house(1, [9, 1, 3, 2])]
        places = [0, None, None, None]
        self.assertEqual(more([[0]] * 4, houses, places, 0, 1), ([0, None, 0, None], [(2, None, 0)]))
        self.assertEqual(more([[0]] * 4, houses, places, 0, 2), ([0, None, 0, 0], [(2, None, 0), (3, None, 0)]))

    def test_more_than_all_need(self):
        houses = [plain_house(0, [1, None, 2])]
        steps = [(2, None, 0), (0, None, 0)]
        self.assertEqual(more([[0]] * 3, houses, [None] * 3, 0, 24), ([0, None, 0], steps))
        self.assertEqual(more([[], [], []], houses, [None] * 3, 0, 24), ([None] * 3, []))

    def test_ties_by_the_told_row(self):
        houses = [plain_house(0, [5, 5, 5], [1, 2, 0])]
        steps = [(1, None, 0), (2, None, 0), (0, None, 0)]
        self.assertEqual(more([[0]] * 3, houses, [None] * 3, 0, 3)[1], steps)

    def test_the_house_that_is_told(self):
        houses = [plain_house(0, [1, 1]), plain_house(0, [1, 1])]
        self.assertEqual(more([[0, 1], [1, 0]], houses, [None, None], 1, 1), ([1, None], [(0, None, 1)]))

    def test_more_seats_are_not_kept(self):
        houses = [House(1, 1, 1, False, [9, 8, 1, 2], [1, 0, 1, 0], [0, 1, 2, 3])]
        places = [0, None, None, None]
        self.assertEqual(more([[0]] * 4, houses, places, 0, 1), ([0, 0, None, None], [(1, None, 0)]))
        self.assertEqual(more([[0]] * 4, houses, places, 0, 2), ([0, 0, None, 0], [(1, None, 0), (3, None, 0)]))

    def test_the_houses_stay(self):
        house = plain_house(1, [2, 1])
        houses = [house]
        more([[0], [0]], houses, [0, None], 0, 1)
        self.assertEqual((len(houses), houses[0] is house, house.seats), (1, True, 1))
        self.assertEqual(house.chosen([0, 1]), [0])

    def test_at_the_bounds_and_beyond(self):
        houses = [plain_house(24, list(range(60)))]
        wishes = [[0]] * 60
        places = granted(wishes, houses)
        self.assertEqual(more(wishes, houses, places, 0, 24)[0], [None] * 12 + [0] * 48)
        self.assertEqual(more(wishes, houses, places, 0, 30)[0], [None] * 6 + [0] * 54)


class Least(unittest.TestCase):
    """Of several houses that would take one, the one with the least number does."""

    def test_the_one_that_was_left_has_the_lesser_number(self):
        houses = [plain_house(1, [3, 2, 1]), plain_house(0, [3, 2, 1])]
        wishes = [[1, 0], [1, 0], [0]]
        steps = [(0, 0, 1), (1, None, 0), (1, 0, 1), (2, None, 0)]
        self.assertEqual(more(wishes, houses, [0, None, None], 1, 2), ([1, 1, 0], steps))

    def test_the_one_that_was_left_has_the_greater_number(self):
        houses = [plain_house(0, [3, 2, 1]), plain_house(1, [3, 2, 1])]
        wishes = [[0, 1], [0, 1], [1]]
        steps = [(0, 1, 0), (1, None, 0), (2, None, 1)]
        self.assertEqual(more(wishes, houses, [1, None, None], 0, 2), ([0, 0, 1], steps))

    def test_not_the_one_of_the_first_comer(self):
        # Once 1 has left house 0, comer 0 waits for house 1 and comer 2 for house 0, which takes first.
        houses = [plain_house(1, [None, 2, 1]), plain_house(0, [1, 2, None])]
        wishes = [[1], [1, 0], [0]]
        steps = [(1, 0, 1), (2, None, 0), (0, None, 1)]
        self.assertEqual(more(wishes, houses, [None, 0, None], 1, 2), ([1, 1, 0], steps))


class SmallWorlds(unittest.TestCase):
    """From each fair row of small worlds: what the year brings is as told by hand."""

    def assert_moved(self, world, ahead, answer, stayed):
        # `world` is the one that there is then, `ahead` the places with the comer gone already.
        now, steps = answer
        self.assertEqual((now, steps), moved_by_hand(world, ahead), world)
        self.assertTrue(fair_by_hand(world, now), world)
        replayed = list(ahead)
        for comer, left, house in steps:
            self.assertEqual(replayed[comer], left, world)
            self.assertIn(house, world.wishes[comer], world)
            self.assertLess(worth(world.wishes[comer], house), worth(world.wishes[comer], left), world)
            replayed[comer] = house
        self.assertEqual(replayed, now, world)
        for comer in stayed:
            row = world.wishes[comer]
            self.assertLessEqual(worth(row, now[comer]), worth(row, ahead[comer]), world)
        return len(steps)

    def going(self, world, places):
        most = 0
        for comer in range(len(places)):
            then = world.with_wishes(comer, [])
            ahead = places[:comer] + [None] + places[comer + 1:]
            stayed = [other for other in range(len(places)) if other != comer]
            answer = gone(world.wishes, world.houses, places, comer)
            self.assertIsNone(answer[0][comer])
            self.assertTrue(fair(then.wishes, then.houses, answer[0]))
            most = max(most, self.assert_moved(then, ahead, answer, stayed))
        return most

    def growing(self, world, places, manies):
        most = 0
        for house in range(len(world.tolds)):
            for many in manies:
                then = world.with_more(house, many)
                answer = more(world.wishes, world.houses, places, house, many)
                self.assertTrue(fair(then.wishes, then.houses, answer[0]))
                most = max(most, self.assert_moved(then, places, answer, range(len(places))))
        return most

    def test_small_worlds(self):
        most = [0, 0]
        for number in range(150):
            world = random_world(5000 + number, 4, 3)
            for places in all_fair(world):
                most[0] = max(most[0], self.going(world, places))
                most[1] = max(most[1], self.growing(world, places, (0, 1, 2, 9)))
        # Chains of several steps came up, else little would be seen here.
        self.assertGreaterEqual(min(most), 3)

    def test_large_worlds(self):
        most = [0, 0]
        for number in range(6):
            world = random_world(6000 + number, 24, 8)
            places = granted(world.wishes, world.houses)
            most[0] = max(most[0], self.going(world, places))
            most[1] = max(most[1], self.growing(world, places, (0, 1, 24)))
        self.assertGreaterEqual(min(most), 3)

    def test_one_after_the_other(self):
        # A whole year: each comer goes, and between the goings the houses grow.
        world = random_world(7000, 24, 8)
        places = granted(world.wishes, world.houses)
        for comer in range(24):
            places = gone(world.wishes, world.houses, places, comer)[0]
            world = world.with_wishes(comer, [])
            self.assertTrue(fair_by_hand(world, places))
            places = more(world.wishes, world.houses, places, comer % 8, 1)[0]
            world = world.with_more(comer % 8, 1)
            self.assertTrue(fair_by_hand(world, places))
        self.assertEqual(places, [None] * 24)


if __name__ == "__main__":
    unittest.main()
