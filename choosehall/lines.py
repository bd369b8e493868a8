"""One comer's wishes as a line of text: written, and read back."""

from choosehall.errors import BadLine, NoComer, NoHouse, Twice

FIGURES = "0123456789"
MOST_FIGURES = 6
LAST_COMER = 23
LAST_HOUSE = 7


def shown(comer, row):
    return f"{comer}:" + "".join([f" {house}" for house in row])


def read(line):
    # The whole form is read ahead of any look at bounds: BadLine is due ahead of the other refusals.
    parts = line.split(":")
    if len(parts) != 2:
        raise BadLine(f"not one colon: {line!r}")
    comer = number_in(parts[0])
    row = row_in(parts[1])
    check_bounds(comer, row)
    return (comer, row)


def row_in(tail):
    # A blank stands ahead of each number, so nothing stands ahead of the first blank.
    words = tail.split(" ")
    if words[0] != "":
        raise BadLine(f"no blank behind the colon: {tail!r}")
    return [number_in(word) for word in words[1:]]


def number_in(word):
    if not is_number(word):
        raise BadLine(f"not a number: {word!r}")
    return int(word)


def is_number(word):
    if word == "" or len(word) > MOST_FIGURES:
        return False
    if word[0] == "0" and word != "0":
        return False
    # Python's isdigit and int take figures of other scripts as well, and int signs and underscores.
    return all([sign in FIGURES for sign in word])


def check_bounds(comer, row):
    if comer > LAST_COMER:
        raise NoComer(f"no such comer: {comer}")
    for house in row:
        if house > LAST_HOUSE:
            raise NoHouse(f"no such house: {house}")
    if len(set(row)) != len(row):
        raise Twice(f"a house stands twice: {row}")
