"""The fewest strokes that make one line of a window another one.

A row of strokes is a list of triples: the first cell, the cell behind the last one, the value.
"""

from knownwhendesk.entry import value_at
from knownwhendesk.lines import starts
from knownwhendesk.rows import pieces_of


def cell_starts(entries, key, a, b, shall):
    """The minutes from which on the cells are, rising."""
    return sorted(set(starts(entries, key, a, b) + shall[0::2]))


def shall_at(shall, minute):
    """The value of the last piece of the line that begins at the minute or before it."""
    value = 0
    for piece in pieces_of(shall, 2):
        if piece[0] <= minute:
            value = piece[1]
    return value


def fewer_of(ways):
    """Of equally few the one found first: that is the one which min takes."""
    return min(ways, key=len)


def ways_anew(anew, shall, i, j):
    ways = [[(i, i + 1, shall[i])] + anew[(i + 1, j)]]
    for e in range(i + 1, j + 1):
        if shall[e] == shall[i]:
            # What is found anew for e to j always has a first stroke that begins at e.
            behind = anew[(e, j)]
            longer = (i, behind[0][1], behind[0][2])
            ways.append([longer] + anew[(i + 1, e - 1)] + behind[1:])
    return ways


def found_anew(shall):
    """What is found anew for the cells i to j, by (i, j); also for no cells, which is (i, i - 1)."""
    count = len(shall)
    anew = {}
    # From the last cell back, since what is found for i is put together from what begins behind i.
    for i in range(count, -1, -1):
        anew[(i, i - 1)] = []
        for j in range(i, count):
            anew[(i, j)] = fewer_of(ways_anew(anew, shall, i, j))
    return anew


def found_over(known, shall):
    """What is found over what is there, for all cells."""
    anew = found_anew(shall)
    # At index n what is found for the first n cells.
    over = [[]]
    for j in range(len(shall)):
        ways = []
        if known[j] == shall[j]:
            ways.append(over[j])
        for i in range(j + 1):
            ways.append(over[i] + anew[(i, j)])
        over.append(fewer_of(ways))
    return over[-1]


def fewest_strokes(entries, key, a, b, shall):
    """The strokes by their minutes: from, up to, value."""
    minutes = cell_starts(entries, key, a, b, shall)
    known = [value_at(entries, key, minute) for minute in minutes]
    wanted = [shall_at(shall, minute) for minute in minutes]
    edges = minutes + [b]
    return [(edges[stroke[0]], edges[stroke[1]], stroke[2]) for stroke in found_over(known, wanted)]
