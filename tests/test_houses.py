"""Points 4, 5 and 6: a house's seats, how it ranks and how it chooses."""

import inspect
import itertools
import unittest

from choosehall.houses import House
from worlds import chosen_by_hand, plain_house


def assert_new_each_time(case, asked, comers):
    # The comers stand as they are answered, so that handing the same list back would be seen here.
    handed = list(comers)
    first = asked(handed)
    case.assertIs(type(first), list)
    case.assertEqual(first, comers)
    first.clear()
    case.assertEqual(handed, comers)
    case.assertEqual(asked(handed), comers)


class Interface(unittest.TestCase):
    def test_arguments(self):
        made = ["seats", "kept", "kind", "opened", "points", "kinds", "row"]
        self.assertEqual(list(inspect.signature(House).parameters), made)
        self.assertEqual(list(inspect.signature(House.ranked).parameters), ["self", "comers"])
        self.assertEqual(list(inspect.signature(House.chosen).parameters), ["self", "comers"])
        self.assertEqual(list(inspect.signature(House.with_more).parameters), ["self", "many"])

    def test_seats_is_a_value(self):
        self.assertEqual(plain_house(0, [1]).seats, 0)
        self.assertEqual(plain_house(24, [1]).seats, 24)
        self.assertEqual(House(5, 3, 1, True, [1], [1], [0]).seats, 5)


class Ranking(unittest.TestCase):
    def test_more_points_ahead(self):
        self.assertEqual(plain_house(1, [5, 1000000, 0, 7]).ranked([0, 1, 2, 3]), [1, 3, 0, 2])

    def test_ties_by_the_told_row(self):
        self.assertEqual(plain_house(1, [5, 5, 5, 5], [2, 0, 3, 1]).ranked([0, 1, 2, 3]), [2, 0, 3, 1])

    def test_points_count_ahead_of_the_row(self):
        self.assertEqual(plain_house(1, [5, 9, 5, 9], [2, 0, 3, 1]).ranked([0, 1, 2, 3]), [3, 1, 2, 0])

    def test_comers_with_none_are_left_out(self):
        house = plain_house(3, [None, 4, None, 0])
        self.assertEqual(house.ranked([0, 1, 2, 3]), [1, 3])
        self.assertEqual(house.ranked([0, 2]), [])

    def test_no_points_is_not_none(self):
        self.assertEqual(plain_house(1, [0, None, 0]).ranked([2, 1, 0]), [0, 2])

    def test_only_those_that_are_asked_of(self):
        house = plain_house(1, [1, 2, 3, 4])
        self.assertEqual(house.ranked([2, 0]), [2, 0])
        self.assertEqual(house.ranked([1]), [1])
        self.assertEqual(house.ranked([]), [])

    def test_seats_and_kinds_do_not_count(self):
        house = House(0, 0, 1, False, [1, 2, 3], [1, 0, 1], [0, 1, 2])
        self.assertEqual(house.ranked([0, 1, 2]), [2, 1, 0])

    def test_any_order_handed_in_and_unchanged(self):
        house = plain_house(2, [3, None, 3, 8], [3, 2, 1, 0])
        for comers in itertools.permutations(range(4)):
            handed = list(comers)
            self.assertEqual(house.ranked(handed), [3, 2, 0])
            self.assertEqual(handed, list(comers))

    def test_two_calls_answer_alike_in_new_lists(self):
        assert_new_each_time(self, plain_house(2, [1, 2, 3]).ranked, [2, 1, 0])


class Keeping(unittest.TestCase):
    """What a house was made of stays as it was, and the house too."""

    def setUp(self):
        self.points = [4, 4, None, 9]
        self.kinds = [0, 1, 1, 0]
        self.row = [3, 1, 0, 2]
        self.house = House(2, 1, 1, False, self.points, self.kinds, self.row)

    def test_lists_changed_later_do_not_turn_it(self):
        more = self.house.with_more(1)
        self.points[:] = [1000, 1, 1, None]
        self.kinds[:] = [1, 0, 0, 0]
        self.row[:] = [2, 0, 1, 3]
        self.assertEqual(self.house.ranked([0, 1, 2, 3]), [3, 1, 0])
        self.assertEqual(self.house.chosen([0, 1, 2, 3]), [1, 3])
        self.assertEqual(self.house.with_more(1).chosen([0, 1, 2, 3]), [0, 1, 3])
        self.assertEqual(more.chosen([0, 1, 2, 3]), [0, 1, 3])

    def test_lists_emptied_later_do_not_turn_it(self):
        for given in (self.points, self.kinds, self.row):
            given.clear()
        self.assertEqual(self.house.chosen([0, 1, 2, 3]), [1, 3])

    def test_nothing_handed_in_is_changed(self):
        self.house.ranked([2, 1, 0])
        self.house.chosen([2, 1, 0])
        self.house.with_more(3).chosen([2, 1, 0])
        self.assertEqual((self.points, self.kinds, self.row), ([4, 4, None, 9], [0, 1, 1, 0], [3, 1, 0, 2]))


class Choosing(unittest.TestCase):
    POINTS = [10, 20, 30, 40, 50, None]
    KINDS = [1, 1, 0, 2, 0, 1]
    ALL = [0, 1, 2, 3, 4, 5]

    def house(self, seats, kept, opened, kind=1):
        return House(seats, kept, kind, opened, self.POINTS, self.KINDS, self.ALL)

    def test_no_seat(self):
        for opened in (True, False):
            self.assertEqual(self.house(0, 0, opened).chosen(self.ALL), [])

    def test_no_kept_seat(self):
        for opened in (True, False):
            self.assertEqual(self.house(1, 0, opened).chosen(self.ALL), [4])
            self.assertEqual(self.house(3, 0, opened).chosen(self.ALL), [2, 3, 4])
            self.assertEqual(self.house(24, 0, opened).chosen(self.ALL), [0, 1, 2, 3, 4])

    def test_all_seats_kept(self):
        self.assertEqual(self.house(1, 1, False).chosen(self.ALL), [1])
        self.assertEqual(self.house(2, 2, False).chosen(self.ALL), [0, 1])
        self.assertEqual(self.house(4, 4, False).chosen(self.ALL), [0, 1])
        self.assertEqual(self.house(2, 2, True).chosen(self.ALL), [0, 1])
        self.assertEqual(self.house(4, 4, True).chosen(self.ALL), [0, 1, 3, 4])

    def test_fewer_of_the_kind_than_kept_seats(self):
        self.assertEqual(self.house(4, 3, False).chosen(self.ALL), [0, 1, 4])
        self.assertEqual(self.house(4, 3, True).chosen(self.ALL), [0, 1, 3, 4])
        self.assertEqual(self.house(3, 2, False, 2).chosen(self.ALL), [3, 4])
        self.assertEqual(self.house(3, 2, True, 2).chosen(self.ALL), [2, 3, 4])

    def test_none_of_the_kind(self):
        self.assertEqual(self.house(3, 2, False, 3).chosen(self.ALL), [4])
        self.assertEqual(self.house(3, 2, True, 3).chosen(self.ALL), [2, 3, 4])
        self.assertEqual(self.house(2, 2, False, 3).chosen(self.ALL), [])
        self.assertEqual(self.house(2, 2, True, 3).chosen(self.ALL), [3, 4])

    def test_more_of_the_kind_than_kept_seats(self):
        for opened in (True, False):
            self.assertEqual(self.house(2, 1, opened).chosen(self.ALL), [1, 4])
            self.assertEqual(self.house(4, 1, opened).chosen(self.ALL), [1, 2, 3, 4])

    def test_the_rest_of_the_kind_may_take_seats_that_are_not_kept(self):
        for opened in (True, False):
            self.assertEqual(self.house(2, 1, opened, 0).chosen(self.ALL), [3, 4])
            self.assertEqual(self.house(3, 1, opened, 0).chosen(self.ALL), [2, 3, 4])
            self.assertEqual(self.house(2, 1, opened).chosen([0, 1]), [0, 1])

    def test_kept_seats_go_to_the_first_ranked_of_the_kind(self):
        house = House(1, 1, 3, False, [7, 7, 7, 9], [3, 3, 3, 0], [2, 1, 0, 3])
        self.assertEqual(house.chosen([0, 1, 2, 3]), [2])
        self.assertEqual(house.chosen([0, 1, 3]), [1])

    def test_comers_with_none_take_no_seat(self):
        for opened in (True, False):
            self.assertEqual(self.house(3, 2, opened).chosen([5]), [])
            self.assertEqual(self.house(24, 24, opened).chosen([5, 1]), [1])
        self.assertEqual(self.house(2, 2, True).chosen([5, 2, 3]), [2, 3])

    def test_none_at_all_to_choose_from(self):
        for opened in (True, False):
            self.assertEqual(self.house(3, 2, opened).chosen([]), [])

    def test_any_order_handed_in_and_unchanged(self):
        house = self.house(3, 1, False)
        for comers in itertools.permutations(self.ALL):
            handed = list(comers)
            self.assertEqual(house.chosen(handed), [1, 3, 4])
            self.assertEqual(handed, list(comers))

    def test_two_calls_answer_alike_in_new_lists(self):
        assert_new_each_time(self, self.house(24, 3, True).chosen, [0, 1, 2])

    def test_every_small_house_as_told_seat_by_seat(self):
        tables = ([2, 1, None, 1, 2], [0, 0, 0, 0, 0], [1, None, 3, None, 2], [4, 3, 2, 1, 0])
        kinds = ([0, 1, 0, 1, 2], [3, 3, 3, 0, 0], [1, 1, 1, 1, 1])
        rows = ([0, 1, 2, 3, 4], [3, 4, 1, 0, 2])
        groups = [list(group) for many in range(6) for group in itertools.combinations(range(5), many)]
        sizes = [(seats, kept) for seats in range(7) for kept in range(seats + 1)]
        for made in itertools.product(sizes, (0, 1, 3), (True, False), tables, kinds, rows):
            told = made[0] + made[1:]
            house = House(*told)
            for comers in groups:
                if house.chosen(comers[::-1]) != chosen_by_hand(*told, comers):
                    self.fail(f"House{told}.chosen({comers})")


class WithMore(unittest.TestCase):
    POINTS = [1, 2, 3, 4, 5]
    KINDS = [1, 1, 0, 0, 0]
    ALL = [0, 1, 2, 3, 4]

    def house(self, seats, kept, opened=False):
        return House(seats, kept, 1, opened, self.POINTS, self.KINDS, self.ALL)

    def test_no_more(self):
        house = self.house(2, 1)
        same = house.with_more(0)
        self.assertIsInstance(same, House)
        self.assertIsNot(same, house)
        self.assertEqual((same.seats, house.seats), (2, 2))
        self.assertEqual(same.chosen(self.ALL), house.chosen(self.ALL))

    def test_more_seats_are_not_kept(self):
        self.assertEqual(self.house(1, 1).with_more(1).chosen(self.ALL), [1, 4])
        self.assertEqual(self.house(1, 1).with_more(2).chosen(self.ALL), [1, 3, 4])
        self.assertEqual(self.house(3, 3).with_more(1).chosen(self.ALL), [0, 1, 4])
        self.assertEqual(self.house(0, 0).with_more(2).chosen(self.ALL), [3, 4])

    def test_else_the_same(self):
        self.assertEqual(self.house(3, 3, True).with_more(1).chosen(self.ALL), [0, 1, 3, 4])
        self.assertEqual(self.house(3, 3, False).with_more(1).chosen(self.ALL), [0, 1, 4])
        turned = House(1, 0, 2, True, [7, None, 7, 9], [2, 2, 0, 0], [2, 0, 1, 3]).with_more(1)
        self.assertEqual(turned.ranked([0, 1, 2, 3]), [3, 2, 0])
        self.assertEqual(turned.chosen([0, 1, 2, 3]), [2, 3])

    def test_the_house_stays(self):
        house = self.house(2, 1)
        self.assertEqual(house.chosen(self.ALL), [1, 4])
        more = house.with_more(2)
        self.assertEqual((house.seats, more.seats), (2, 4))
        self.assertEqual(house.chosen(self.ALL), [1, 4])
        self.assertEqual(more.chosen(self.ALL), [1, 2, 3, 4])
        self.assertEqual(house.ranked(self.ALL), [4, 3, 2, 1, 0])

    def test_more_upon_more(self):
        house = self.house(1, 1)
        self.assertEqual(house.with_more(1).with_more(1).seats, 3)
        self.assertEqual(house.with_more(1).with_more(1).chosen(self.ALL), [1, 3, 4])

    def test_up_to_48_seats(self):
        self.assertEqual(self.house(24, 24).with_more(24).seats, 48)


class Beyond(unittest.TestCase):
    """Numbers and lengths at the bounds, and somewhat beyond: nothing is refused."""

    def test_at_the_bounds(self):
        house = House(24, 24, 3, True, [1000000] * 24, [3] * 24, list(range(23, -1, -1)))
        self.assertEqual(house.ranked(list(range(24))), list(range(23, -1, -1)))
        self.assertEqual(house.chosen(list(range(24))), list(range(24)))
        self.assertEqual(House(1, 0, 0, False, [0], [0], [0]).chosen([0]), [0])

    def test_more_comers_seats_kinds_and_points(self):
        many = 30
        house = House(26, 25, 5, False, [1000000 + comer for comer in range(many)], [5] * many, list(range(many)))
        self.assertEqual(house.ranked(list(range(many))), list(range(many - 1, -1, -1)))
        self.assertEqual(house.chosen(list(range(many))), list(range(4, many)))

    def test_more_than_48_seats(self):
        self.assertEqual(plain_house(24, [1]).with_more(30).with_more(1).seats, 55)

    def test_more_kept_than_seats_gives_no_more_seats(self):
        for opened in (True, False):
            house = House(2, 3, 1, opened, [1, 2, 3, 9], [1, 1, 1, 0], [0, 1, 2, 3])
            self.assertEqual(house.chosen([0, 1, 2, 3]), [1, 2])
            self.assertEqual(house.with_more(1).chosen([0, 1, 2, 3]), [1, 2, 3])


if __name__ == "__main__":
    unittest.main()
