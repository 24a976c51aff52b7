"""Builds calls by their names, parts what is answered call by call, and finds the fewest strokes by the words."""

import functools

from knownwhendesk.centres import answers

HUGE = 1000000000000000000


def begin():
    return [0]


def write(c, k, a, b, v):
    return [1, c, k, a, b, v]


def hand(c, d, i):
    return [2, c, d, i]


def sync(c, d):
    return [3, c, d]


def knows(c, k, m):
    return [4, c, k, m]


def knew(c, n, k, m):
    return [5, c, n, k, m]


def line(c, n, k, a, b):
    return [6, c, n, k, a, b]


def since(c, k, m):
    return [7, c, k, m]


def changed(c, n, t, k, a, b):
    return [8, c, n, t, k, a, b]


def decide(c, j, k, m):
    return [9, c, j, k, m]


def wrong(c):
    return [10, c]


def unlike(c, d):
    return [11, c, d]


def entries(c):
    return [12, c]


def fewest(c, k, a, b, *shall):
    return [13, c, k, a, b, len(shall), *shall]


def painted(c, k, a, b, *strokes):
    return [14, c, k, a, b, len(strokes), *strokes]


def howlong(c, n, k, a, b, v):
    return [15, c, n, k, a, b, v]


def differ(c, d, k, a, b):
    return [16, c, d, k, a, b]


def hidden(c):
    return [17, c]


def first(c, k, m, v):
    return [18, c, k, m, v]


def asof(c, t, k, m):
    return [19, c, t, k, m]


def flat(calls):
    return [number for call in calls for number in call]


def parted(given):
    """The answers one by one; fails if the counts do not fit."""
    parts = []
    at = 0
    while at < len(given):
        end = at + 1 + given[at]
        if end > len(given):
            raise ValueError("an answer is cut short")
        parts.append(given[at + 1:end])
        at = end
    return parts


def ask(*calls):
    """The answers to all these calls on one new set of centres."""
    parts = parted(answers(flat(calls)))
    if len(parts) != len(calls):
        raise ValueError("not one answer a call")
    return parts


def last(*calls):
    return ask(*calls)[-1]


def by_the_words(known, shall):
    """What fewest finds, as strokes of cells: the document's own steps, each way in its order, by recursion."""
    def fewer(ways):
        best = None
        for way in ways:
            if best is None or len(way) < len(best):
                best = way
        return best

    @functools.cache
    def anew(i, j):
        if j < i:
            return ()
        ways = [((i, i + 1, shall[i]),) + anew(i + 1, j)]
        for e in range(i + 1, j + 1):
            if shall[e] == shall[i]:
                (begins, ends, value), *others = anew(e, j)
                assert begins == e
                ways.append(((i, ends, value),) + anew(i + 1, e - 1) + tuple(others))
        return fewer(ways)

    @functools.cache
    def over(j):
        if j < 0:
            return ()
        ways = [over(j - 1)] if known[j] == shall[j] else []
        ways += [over(i - 1) + anew(i, j) for i in range(j + 1)]
        return fewer(ways)

    return list(over(len(shall) - 1))
