"""Point 1 over the whole program: nothing handed in is changed, and asked twice it answers alike, in new lists."""

import unittest

from choosehall.asking import granted
from choosehall.lines import read, shown
from choosehall.looking import both_rather, fair, held, rather
from choosehall.papers import paper, waiting
from choosehall.year import gone, more
from worlds import all_fair, assert_untouched, random_world


class Untouched(unittest.TestCase):
    def assert_places(self, world, places):
        wishes, houses = world.wishes, world.houses
        assert_untouched(self, both_rather, wishes, houses, places)
        assert_untouched(self, fair, wishes, houses, places)
        for comer in range(len(wishes)):
            assert_untouched(self, rather, wishes, places, comer)
            assert_untouched(self, paper, wishes, places, comer)
        for house in range(len(houses)):
            assert_untouched(self, held, places, house)
            assert_untouched(self, waiting, wishes, houses, places, house)

    def assert_year(self, world, places):
        wishes, houses = world.wishes, world.houses
        for comer in range(len(wishes)):
            assert_untouched(self, gone, wishes, houses, places, comer)
        for house in range(len(houses)):
            for many in (0, 1, 24):
                assert_untouched(self, more, wishes, houses, places, house, many)

    def test_small_worlds(self):
        for number in range(15):
            world = random_world(8000 + number, 4, 3)
            assert_untouched(self, granted, world.wishes, world.houses)
            for places in all_fair(world):
                self.assert_places(world, places)
                self.assert_year(world, places)

    def test_places_that_are_not_fair(self):
        for number in range(15):
            world = random_world(8100 + number, 4, 3)
            for places in ([None] * 4, [0, 0, 0, 0], [2, 1, 0, None], [1, 1, 2, 2]):
                self.assert_places(world, places)

    def test_a_world_of_24_comers_and_8_houses(self):
        world = random_world(8200, 24, 8)
        places = assert_untouched(self, granted, world.wishes, world.houses)
        self.assert_places(world, places)
        self.assert_year(world, places)

    def test_houses(self):
        world = random_world(8300, 6, 3)
        for house in world.houses:
            for comers in ([], [5, 0, 3], [0, 1, 2, 3, 4, 5]):
                assert_untouched(self, lambda asked, given: asked.ranked(given), house, comers)
                assert_untouched(self, lambda asked, given: asked.chosen(given), house, comers)
                assert_untouched(self, lambda asked, given: asked.with_more(2).chosen(given), house, comers)

    def test_lines(self):
        assert_untouched(self, shown, 3, [1, 0])
        assert_untouched(self, read, "3: 1 0")

    def test_wishes_that_several_comers_share(self):
        # One list handed in for all: what is done for one comer must not turn the others' wishes.
        world = random_world(8400, 4, 3)
        row = [2, 0, 1]
        wishes = [row, row, row, row]
        places = assert_untouched(self, granted, wishes, world.houses)
        for comer in range(4):
            assert_untouched(self, gone, wishes, world.houses, places, comer)


if __name__ == "__main__":
    unittest.main()
