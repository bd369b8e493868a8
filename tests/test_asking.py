"""Points 2 and 10: places by rounds of asking."""

import inspect
import itertools
import random
import unittest

from choosehall.asking import granted
from choosehall.houses import House
from worlds import World, all_fair, all_rows, chosen_by_hand, fair_by_hand, plain_house, plain_told, random_world, worth


def granted_in(world):
    return granted(world.wishes, world.houses)


def one_by_one(world, order):
    # One comer asks at a time, and the one that a house sends away asks on at once: the order must not count.
    refused = {comer: set() for comer in order}
    inside = {house: [] for house in range(len(world.tolds))}
    asking = list(order)
    while asking:
        comer = asking.pop()
        left = [house for house in world.wishes[comer] if house not in refused[comer]]
        if left:
            asked = inside[left[0]] + [comer]
            inside[left[0]] = chosen_by_hand(*world.tolds[left[0]], asked)
            for other in set(asked) - set(inside[left[0]]):
                refused[other].add(left[0])
                asking.append(other)
    places = [None] * len(world.wishes)
    for house, comers in inside.items():
        for comer in comers:
            places[comer] = house
    return places


def called_otherwise(world, comers, houses):
    # Comer c is called comers[c] now, and house h houses[h].
    def turned(entries, numbers):
        return [entries[numbers.index(number)] for number in range(len(numbers))]

    def told_otherwise(told):
        points, kinds, row = told[4:]
        return told[:4] + (turned(points, comers), turned(kinds, comers), [comers[comer] for comer in row])

    wishes = [[houses[house] for house in row] for row in world.wishes]
    return World(turned(wishes, comers), turned([told_otherwise(told) for told in world.tolds], houses))


class ByHand(unittest.TestCase):
    def test_arguments(self):
        self.assertEqual(list(inspect.signature(granted).parameters), ["wishes", "houses"])

    def test_each_its_first_wish(self):
        houses = [plain_house(1, [1, 1]), plain_house(1, [1, 1])]
        self.assertEqual(granted([[0, 1], [1, 0]], houses), [0, 1])
        self.assertEqual(granted([[1, 0], [0, 1]], houses), [1, 0])

    def test_several_rounds_with_refusals_of_comers_held_for_now(self):
        # 2 is held by house 1 until 0 asks there, and 1 by house 0 until 2 asks there; 1 asks three houses.
        houses = [plain_house(1, [1, 2, 3]), plain_house(1, [3, 1, 2]), plain_house(1, [1, 1, 1])]
        self.assertEqual(granted([[0, 1, 2], [0, 1, 2], [1, 0, 2]], houses), [1, 2, 0])

    def test_a_chain_that_ends_without_a_place(self):
        houses = [plain_house(1, [1, 2, 3]), plain_house(1, [3, 1, 2])]
        self.assertEqual(granted([[0, 1], [0, 1], [1, 0]], houses), [1, None, 0])

    def test_best_for_the_comers_not_for_the_houses(self):
        houses = [plain_house(1, [1, 2]), plain_house(1, [2, 1])]
        self.assertEqual(granted([[0, 1], [1, 0]], houses), [0, 1])

    def test_ties_by_the_told_row(self):
        wishes = [[0], [0], [0]]
        self.assertEqual(granted(wishes, [plain_house(1, [5, 5, 5], [1, 2, 0])]), [None, 0, None])
        self.assertEqual(granted(wishes, [plain_house(2, [5, 5, 5], [1, 2, 0])]), [None, 0, 0])
        self.assertEqual(granted(wishes, [plain_house(2, [5, 5, 6], [1, 0, 2])]), [None, 0, 0])

    def test_kept_seats(self):
        def told(seats, kept, opened, kinds):
            return [House(seats, kept, 1, opened, [9, 8, 7], kinds, [0, 1, 2])]

        wishes = [[0], [0], [0]]
        for opened in (True, False):
            self.assertEqual(granted(wishes, told(2, 1, opened, [0, 0, 1])), [0, None, 0])
            self.assertEqual(granted(wishes, told(1, 1, opened, [0, 0, 1])), [None, None, 0])
            self.assertEqual(granted(wishes, told(2, 1, opened, [1, 0, 1])), [0, 0, None])
        self.assertEqual(granted(wishes, told(2, 2, True, [0, 0, 1])), [0, None, 0])
        self.assertEqual(granted(wishes, told(2, 2, False, [0, 0, 1])), [None, None, 0])
        self.assertEqual(granted(wishes, told(2, 2, True, [0, 0, 0])), [0, 0, None])
        self.assertEqual(granted(wishes, told(2, 2, False, [0, 0, 0])), [None, None, None])

    def test_an_open_kept_seat_is_lost_to_one_of_the_kind_that_asks_later(self):
        houses = [House(2, 1, 1, True, [9, 8, 7, 9], [0, 0, 1, 0], [0, 1, 2, 3]), plain_house(1, [3, 2, 1, 4])]
        self.assertEqual(granted([[0, 1], [0, 1], [1, 0], [1]], houses), [0, None, 0, 1])
        self.assertEqual(granted([[0, 1], [0, 1], [1, 0], []], houses), [0, 0, 1, None])

    def test_points_none(self):
        houses = [plain_house(3, [None, 0, 1]), plain_house(3, [1, 1, None])]
        self.assertEqual(granted([[0, 1], [0, 1], [1, 0]], houses), [1, 0, 0])
        self.assertEqual(granted([[0], [0], [1]], houses), [None, 0, None])

    def test_empty_wishes(self):
        self.assertEqual(granted([[], [0]], [plain_house(2, [9, 1])]), [None, 0])
        self.assertEqual(granted([[]], [plain_house(2, [9])]), [None])

    def test_a_house_without_seats(self):
        houses = [plain_house(0, [9, 9]), plain_house(1, [1, 2])]
        self.assertEqual(granted([[0, 1], [0, 1]], houses), [None, 1])
        self.assertEqual(granted([[0], [0]], houses), [None, None])

    def test_a_house_that_is_no_wish_is_never_given(self):
        # Seats and points for all, and yet only wishes count.
        houses = [plain_house(24, [1000000] * 3) for house in range(3)]
        self.assertEqual(granted([[2], [], [1]], houses), [2, None, 1])

    def test_a_new_list(self):
        wishes = [[0], []]
        houses = [plain_house(1, [1, 1])]
        first = granted(wishes, houses)
        self.assertIs(type(first), list)
        first.clear()
        self.assertEqual(granted(wishes, houses), [0, None])

    def test_one_comer_and_one_house(self):
        self.assertEqual(granted([[0]], [plain_house(1, [0])]), [0])


class SmallWorlds(unittest.TestCase):
    """All rows of places of small worlds are walked through."""

    def assert_best(self, world):
        given = granted_in(world)
        rows = all_fair(world)
        self.assertIn(given, rows, world)
        filled = [given.count(house) for house in range(len(world.tolds))]
        for places in rows:
            for comer, row in enumerate(world.wishes):
                self.assertLessEqual(worth(row, given[comer]), worth(row, places[comer]), (world, places))
                self.assertEqual(given[comer] is None, places[comer] is None, (world, places))
            self.assertEqual([places.count(house) for house in range(len(world.tolds))], filled, (world, places))
        return len(rows)

    def test_worlds_of_four_comers_and_three_houses(self):
        most = max(self.assert_best(random_world(number, 4, 3)) for number in range(250))
        # Some worlds have several fair rows, else little would be seen here.
        self.assertGreaterEqual(most, 2)

    def test_worlds_of_five_comers_and_two_houses(self):
        for number in range(150):
            self.assert_best(random_world(1000 + number, 5, 2))

    def test_all_wishes_of_three_comers_for_two_houses(self):
        tolds = (
            [(1, 0, 0, False, [1, 2, 3], [0, 0, 0], [0, 1, 2]), (1, 0, 0, False, [3, 2, 1], [0, 0, 0], [0, 1, 2])],
            [(2, 1, 1, True, [1, 1, 1], [0, 1, 0], [2, 0, 1]), (1, 1, 0, False, [5, 6, 5], [0, 1, 0], [0, 1, 2])],
            [(1, 1, 1, True, [None, 4, 4], [0, 1, 1], [2, 1, 0]), (0, 0, 0, True, [1, 1, 1], [0, 1, 1], [0, 1, 2])],
        )
        for wishes in itertools.product(all_rows(2), repeat=3):
            for told in tolds:
                self.assert_best(World(list(wishes), told))

    def test_a_world_with_several_fair_rows(self):
        # Comers and houses want the opposite of one another: three fair rows, and the comers' first wishes are given.
        points = ([1, 3, 2], [2, 1, 3], [3, 2, 1])
        world = World([[0, 1, 2], [1, 2, 0], [2, 0, 1]], [plain_told(1, row) for row in points])
        self.assertEqual(self.assert_best(world), 3)
        self.assertEqual(granted_in(world), [0, 1, 2])


class OtherWishes(unittest.TestCase):
    """No comer does better by telling other wishes."""

    def assert_no_better(self, world, rows):
        given = granted_in(world)
        for comer, true_row in enumerate(world.wishes):
            for row in rows:
                got = granted_in(world.with_wishes(comer, row))[comer]
                self.assertGreaterEqual(worth(true_row, got), worth(true_row, given[comer]), (world, comer, row))

    def test_small_worlds(self):
        for number in range(100):
            self.assert_no_better(random_world(2000 + number, 4, 3), all_rows(3))

    def test_a_world_of_24_comers_and_8_houses(self):
        rows = [row for row in all_rows(8) if len(row) < 2] + all_rows(8)[500::9973]
        self.assert_no_better(random_world(2100, 24, 8), rows)


class OtherNumbers(unittest.TestCase):
    """Comers and houses called by other numbers get the same places under these."""

    def assert_same(self, world, comers, houses):
        due = [None] * len(comers)
        for comer, house in enumerate(granted_in(world)):
            due[comers[comer]] = None if house is None else houses[house]
        self.assertEqual(granted_in(called_otherwise(world, comers, houses)), due, (world, comers, houses))

    def test_small_worlds(self):
        for number in range(20):
            world = random_world(3000 + number, 4, 3)
            for comers in itertools.permutations(range(4)):
                for houses in itertools.permutations(range(3)):
                    self.assert_same(world, list(comers), list(houses))

    def test_large_worlds(self):
        for number in range(20):
            dealt = random.Random(number)
            self.assert_same(random_world(3100 + number, 24, 8), dealt.sample(range(24), 24), dealt.sample(range(8), 8))


class LargeWorlds(unittest.TestCase):
    def test_24_comers_and_8_houses(self):
        for number in range(40):
            world = random_world(4000 + number, 24, 8)
            given = granted_in(world)
            self.assertTrue(fair_by_hand(world, given), world)
            for order in (range(24), range(23, -1, -1), random.Random(number).sample(range(24), 24)):
                self.assertEqual(given, one_by_one(world, list(order)), world)

    def test_all_want_the_same(self):
        # Each house holds the three first ranked ones that all the houses ahead refused: 22 23 20, then 21 18 19, ..
        points = [comer // 2 for comer in range(24)]
        world = World([list(range(7, -1, -1))] * 24, [plain_told(3, points) for house in range(8)])
        self.assertEqual(granted_in(world), [0, 0, 1, 0, 1, 1, 2, 2, 3, 2, 3, 3, 4, 4, 5, 4, 5, 5, 6, 6, 7, 6, 7, 7])

    def test_somewhat_beyond_the_bounds(self):
        world = random_world(4100, 28, 10)
        self.assertEqual(granted_in(world), one_by_one(world, list(range(28))))


if __name__ == "__main__":
    unittest.main()
