"""The further rows: the line that shall be, and strokes; each a list of numbers for the window a to b - 1."""

from knownwhendesk.bounds import within


def pieces_of(row, size):
    """The row cut into pieces of so many numbers each."""
    return [row[at:at + size] for at in range(0, len(row), size)]


def is_rising(minutes):
    return all([minute < later for minute, later in zip(minutes, minutes[1:])])


def is_line(shall, a, b):
    if len(shall) == 0 or len(shall) % 2 != 0:
        return False
    minutes = shall[0::2]
    values = shall[1::2]
    if minutes[0] != a or minutes[-1] >= b or not is_rising(minutes):
        return False
    return all([within("v", value) for value in values])


def is_stroke(piece, a, b):
    return a <= piece[0] < piece[1] <= b and within("v", piece[2])


def are_strokes(strokes, a, b):
    return len(strokes) % 3 == 0 and all([is_stroke(piece, a, b) for piece in pieces_of(strokes, 3)])
