"""Worlds to try the program on, and the document's points told once more, with none of the program's own steps.

A house is told here as a tuple of what House is made of: (seats, kept, kind, opened, points, kinds, row).
"""

import copy
import itertools
import random

from choosehall.houses import House


class World:
    def __init__(self, wishes, tolds):
        self.wishes = wishes
        self.tolds = tolds
        self.houses = [House(*told) for told in tolds]

    def __repr__(self):
        return f"World({self.wishes}, {self.tolds})"

    def with_wishes(self, comer, row):
        return World(self.wishes[:comer] + [row] + self.wishes[comer + 1:], self.tolds)

    def with_more(self, house, many):
        told = (self.tolds[house][0] + many,) + self.tolds[house][1:]
        return World(self.wishes, self.tolds[:house] + [told] + self.tolds[house + 1:])


def plain_house(seats, points, row=None):
    return House(*plain_told(seats, points, row))


def plain_told(seats, points, row=None):
    # No seat is kept, so that only points and row count.
    comers = len(points)
    return (seats, 0, 0, False, points, [0] * comers, list(range(comers)) if row is None else row)


def random_world(number, comers, houses):
    # Few seats, points and kinds, so that ties and kept seats decide often; the same number deals the same world.
    dealt = random.Random(number)
    kinds = [dealt.randrange(2) for comer in range(comers)]

    def told():
        seats = dealt.randrange(comers // houses + 2)
        points = [dealt.choice((None, 0, 1, 1, 2, 2, 3, 1000000)) for comer in range(comers)]
        row = dealt.sample(range(comers), comers)
        return (seats, dealt.randrange(seats + 1), dealt.randrange(2), dealt.random() < 0.5, points, kinds, row)

    def wished():
        return dealt.sample(range(houses), dealt.choice((0, houses) + tuple(range(houses + 1))))

    return World([wished() for comer in range(comers)], [told() for house in range(houses)])


def chosen_by_hand(seats, kept, kind, opened, points, kinds, row, comers):
    # Points 5 and 6 told seat by seat.
    waiting = [comer for comer in row if comer in comers and points[comer] is not None]
    inside = []

    def seat_best(able):
        if able:
            best = max(able, key=lambda comer: (points[comer], -row.index(comer)))
            waiting.remove(best)
            inside.append(best)
        return bool(able)

    empty = 0
    for seat in range(kept):
        if not seat_best([comer for comer in waiting if kinds[comer] == kind]):
            empty += 1
    for seat in range(seats - kept + (empty if opened else 0)):
        seat_best(waiting)
    return sorted(inside)


def worth(row, house):
    # Point 2: how far ahead a place stands for a comer; less is better, and no place lies behind each wish.
    if house is None:
        return len(row)
    return row.index(house) if house in row else len(row) + 1


def pairs_by_hand(world, places):
    # Points 7 and 8.
    pairs = []
    for comer, row in enumerate(world.wishes):
        for house in row:
            there = {other for other, place in enumerate(places) if place == house}
            better = worth(row, house) < worth(row, places[comer])
            if better and comer in chosen_by_hand(*world.tolds[house], there | {comer}):
                pairs.append((comer, house))
    return pairs


def fair_by_hand(world, places):
    # Point 9.
    for comer, place in enumerate(places):
        if place is not None and place not in world.wishes[comer]:
            return False
    for house, told in enumerate(world.tolds):
        there = [comer for comer, place in enumerate(places) if place == house]
        if chosen_by_hand(*told, there) != there:
            return False
    return not pairs_by_hand(world, places)


def all_places(comers, houses):
    return [list(places) for places in itertools.product([None] + list(range(houses)), repeat=comers)]


def all_fair(world):
    return [places for places in all_places(len(world.wishes), len(world.tolds)) if fair_by_hand(world, places)]


def all_rows(houses):
    return [list(row) for many in range(houses + 1) for row in itertools.permutations(range(houses), many)]


def ranks_ahead(told, one, other):
    points, row = told[4], told[6]
    return (-points[one], row.index(one)) < (-points[other], row.index(other))


def first_ranked(told, comers):
    return [one for one in comers if all(ranks_ahead(told, one, other) for other in comers if other != one)][0]


def moved_by_hand(world, places):
    # Point 13, once the comer has gone or the seats have come.
    places = list(places)
    steps = []
    while pairs_by_hand(world, places):
        house = sorted(house for comer, house in pairs_by_hand(world, places))[0]
        there = {comer for comer, place in enumerate(places) if place == house}
        wanting = {
            comer for comer, row in enumerate(world.wishes)
            if house in row and worth(row, house) < worth(row, places[comer])
        }
        taken = set(chosen_by_hand(*world.tolds[house], there | wanting)) - there
        comer = first_ranked(world.tolds[house], taken)
        steps.append((comer, places[comer], house))
        places[comer] = house
    return places, steps


def assert_untouched(case, asked, *handed):
    """Asked twice, the answers are alike, nothing handed in is changed, and no answer shares a list with it."""
    ahead = snapshot(handed)
    first = asked(*handed)
    case.assertEqual(snapshot(handed), ahead)
    kept = copy.deepcopy(first)
    case.assertEqual(asked(*handed), kept)
    spoil(first)
    case.assertEqual(snapshot(handed), ahead)
    case.assertEqual(asked(*handed), kept)
    return kept


def snapshot(value):
    if isinstance(value, House):
        return ("House", id(value), copy.deepcopy(vars(value)))
    if isinstance(value, (list, tuple)):
        return (type(value), [snapshot(part) for part in value])
    return value


def spoil(value):
    if isinstance(value, (list, tuple)):
        for part in value:
            spoil(part)
    if isinstance(value, list):
        value.append("spoiled")
