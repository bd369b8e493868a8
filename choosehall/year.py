"""What the year brings: a comer goes, a house gets more seats, and places move by steps."""

from choosehall.looking import both_rather, held
from choosehall.papers import waiting


def gone(wishes, houses, places, comer):
    return moved(with_entry(wishes, comer, []), houses, with_entry(places, comer, None))


def more(wishes, houses, places, house, many):
    larger = houses[house].with_more(many)
    return moved(wishes, with_entry(houses, house, larger), places)


def with_entry(entries, number, entry):
    # What is handed in stays as it is, so the entry is put into a copy.
    changed = list(entries)
    changed[number] = entry
    return changed


def moved(wishes, houses, places):
    moving = list(places)
    steps = []
    pairs = both_rather(wishes, houses, moving)
    while pairs != []:
        house = min([pair[1] for pair in pairs])
        comer = next_taken(wishes, houses, moving, house)
        steps.append((comer, moving[comer], house))
        moving[comer] = house
        pairs = both_rather(wishes, houses, moving)
    return (moving, steps)


def next_taken(wishes, houses, places, house):
    # Chosen out of all at once, not one by one: a kept seat may be open to one comer by itself,
    # and yet go to another that is of the kind.
    row = waiting(wishes, houses, places, house)
    chosen = houses[house].chosen(held(places, house) + row)
    return [comer for comer in row if comer in chosen][0]
