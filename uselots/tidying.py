"""TABLES made tidy: just what is needed, nothing twice, by height and in sequence."""

from uselots.entries import names_of, renumbered


def heights_of(table):
    """The heights of the entries of a TABLE, as a list."""
    tall = []
    for entry in table:
        tall.append(max([tall[use] + 1 for use in names_of(entry)], default=0))
    return tall


def needed_in(table, uses):
    """The numbers of all entries of a TABLE that uses are or need, the greatest first."""
    wanted = [False] * len(table)
    for use in uses:
        wanted[use] = True
    # An entry names lesser numbers alone: once it is met, nothing can make it wanted any more.
    numbers = []
    for number in reversed(range(len(table))):
        if wanted[number]:
            numbers.append(number)
            for use in names_of(table[number]):
                wanted[use] = True
    return numbers


def tidy_table(table, uses):
    """The tidy TABLE of uses, all of this TABLE, and the tuple of their numbers in it."""
    tall = heights_of(table)
    levels = {}
    for number in needed_in(table, uses):
        levels.setdefault(tall[number], []).append(number)
    tidy = []
    numbers = {}
    for height in sorted(list(levels)):
        told = {number: renumbered(table[number], numbers) for number in levels[height]}
        places = {}
        for entry in sorted(list(told.values())):
            if entry not in places:
                places[entry] = len(tidy)
                tidy.append(entry)
        for number in levels[height]:
            numbers[number] = places[told[number]]
    return tuple(tidy), tuple([numbers[use] for use in uses])
