"""What is told of places: to a comer in its paper, to a house in its waiting row."""

from choosehall.looking import held, rather


def paper(wishes, places, comer):
    return [(house, held(places, house)) for house in rather(wishes, places, comer)]


def waiting(wishes, houses, places, house):
    wanting = [comer for comer in range(len(wishes)) if house in rather(wishes, places, comer)]
    return houses[house].ranked(wanting)
