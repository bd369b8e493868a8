"""Looking at places: who is held where, who would rather have another one, and whether they are fair."""


def held(places, house):
    return [comer for comer in range(len(places)) if places[comer] == house]


def rather(wishes, places, comer):
    row = wishes[comer]
    place = places[comer]
    # None is no house, so a comer without a place lands behind its whole row, as one with an unwished place does.
    if place in row:
        return row[:row.index(place)]
    return list(row)


def both_rather(wishes, houses, places):
    pairs = []
    for comer in range(len(wishes)):
        for house in rather(wishes, places, comer):
            if comer in houses[house].chosen(held(places, house) + [comer]):
                pairs.append((comer, house))
    return pairs


def fair(wishes, houses, places):
    return all_wished(wishes, places) and all_chosen(houses, places) and both_rather(wishes, houses, places) == []


def all_wished(wishes, places):
    return all([places[comer] is None or places[comer] in wishes[comer] for comer in range(len(places))])


def all_chosen(houses, places):
    return all([chooses_all(houses[house], held(places, house)) for house in range(len(houses))])


def chooses_all(house, comers):
    return house.chosen(comers) == comers
