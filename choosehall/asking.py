"""Giving places by rounds of asking."""

from choosehall.looking import held


def granted(wishes, houses):
    places = [None for row in wishes]
    # Houses refuse a comer in the order of its wishes, so how many did tells which one it asks next.
    refusals = [0 for row in wishes]
    asking = askers(wishes, places, refusals)
    while asking != []:
        for comer in asking:
            places[comer] = wishes[comer][refusals[comer]]
        sent_away = refused(houses, places)
        for comer in sent_away:
            places[comer] = None
            refusals[comer] += 1
        asking = askers(wishes, places, refusals)
    return places


def askers(wishes, places, refusals):
    free = [comer for comer in range(len(wishes)) if places[comer] is None]
    return [comer for comer in free if refusals[comer] < len(wishes[comer])]


def refused(houses, places):
    # A house that nobody asked this round holds only what it chose already, and would choose it all again.
    out = []
    for house in range(len(houses)):
        there = held(places, house)
        taken = houses[house].chosen(there)
        out.extend([comer for comer in there if comer not in taken])
    return out
