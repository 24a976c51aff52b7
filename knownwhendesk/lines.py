"""Lines and changes of one key in a window: the minutes a to b - 1."""

from knownwhendesk.entry import value_at


def starts(entries, key, a, b):
    """The only minutes of the window at which another value may begin, rising."""
    minutes = [a]
    for entry in entries:
        if entry.key == key:
            edges = (entry.from_minute, entry.up_to)
            minutes.extend([minute for minute in edges if a < minute < b])
    return sorted(set(minutes))


def joined(pieces):
    """Of pairs (minute, what is told from there on) those that begin something unlike the one before."""
    runs = []
    for piece in pieces:
        if len(runs) == 0 or runs[-1][1] != piece[1]:
            runs.append(piece)
    return runs


def stretches(runs, b):
    """Each run with its end: from, up to, what is told there."""
    ends = [run[0] for run in runs[1:]] + [b]
    return [(run[0], end, run[1]) for run, end in zip(runs, ends)]


def line_of(entries, key, a, b):
    """The runs of what the entries tell: pairs of a minute and a value."""
    minutes = starts(entries, key, a, b)
    return joined([(minute, value_at(entries, key, minute)) for minute in minutes])


def minutes_with(entries, key, a, b, value):
    """At how many minutes of the window the entries tell the value."""
    told = stretches(line_of(entries, key, a, b), b)
    return sum([stretch[1] - stretch[0] for stretch in told if stretch[2] == value])


def changes_between(one, other, key, a, b):
    """The stretches where two lists of entries tell unlike values: from, up to, the one's, the other's."""
    pieces = []
    for minute in starts(one + other, key, a, b):
        pieces.append((minute, (value_at(one, key, minute), value_at(other, key, minute))))
    # Joined before the like ones are left out: a like stretch between two unlike ones keeps them apart.
    changes = []
    for stretch in stretches(joined(pieces), b):
        both = stretch[2]
        if both[0] != both[1]:
            changes.append((stretch[0], stretch[1], both[0], both[1]))
    return changes
