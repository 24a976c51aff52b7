"""Lines and changes of one key in a window: the minutes a to b - 1."""

from knownwhendesk.entry import value_at


def starts(entries, key, a, b):
    """The only minutes of the window at which another value may begin, rising."""
    minutes = [a]
    for entry in entries:
        if entry.key == key:
            edges = (entry.from_minute, entry.up_to)
            minutes.extend([minute for minute in edges if a < minute < b])
    return sorted(set(minutes))


def joined(pieces):
    """Of pairs (minute, what is told from there on) those that begin something unlike the one before."""
    runs = []
    for piece in pieces:
        if len(runs) == 0 or runs[-1][1] != piece[1]:
            runs.append(piece)
    return runs


def line_of(entries, key, a, b):
    """The runs of what the entries tell: pairs of a minute and a value."""
    minutes = starts(entries, key, a, b)
    return joined([(minute, value_at(entries, key, minute)) for minute in minutes])


def changes_between(one, other, key, a, b):
    """The stretches where two lists of entries tell unlike values: from, up to, the one's, the other's."""
    pieces = []
    for minute in starts(one + other, key, a, b):
        pieces.append((minute, (value_at(one, key, minute), value_at(other, key, minute))))
    # Joined before the like ones are left out: a like stretch between two unlike ones keeps them apart.
    runs = joined(pieces)
    ends = [run[0] for run in runs[1:]] + [b]
    stretches = []
    for run, end in zip(runs, ends):
        both = run[1]
        if both[0] != both[1]:
            stretches.append((run[0], end, both[0], both[1]))
    return stretches
