"""Builds calls by their names, and parts what is answered call by call."""

from knownwhendesk.centres import answers

HUGE = 1000000000000000000


def begin():
    return [0]


def write(c, k, a, b, v):
    return [1, c, k, a, b, v]


def hand(c, d, i):
    return [2, c, d, i]


def sync(c, d):
    return [3, c, d]


def knows(c, k, m):
    return [4, c, k, m]


def knew(c, n, k, m):
    return [5, c, n, k, m]


def line(c, n, k, a, b):
    return [6, c, n, k, a, b]


def since(c, k, m):
    return [7, c, k, m]


def changed(c, n, t, k, a, b):
    return [8, c, n, t, k, a, b]


def decide(c, j, k, m):
    return [9, c, j, k, m]


def flat(calls):
    return [number for call in calls for number in call]


def parted(given):
    """The answers one by one; fails if the counts do not fit."""
    parts = []
    at = 0
    while at < len(given):
        end = at + 1 + given[at]
        if end > len(given):
            raise ValueError("an answer is cut short")
        parts.append(given[at + 1:end])
        at = end
    return parts


def ask(*calls):
    """The answers to all these calls on one new set of centres."""
    parts = parted(answers(flat(calls)))
    if len(parts) != len(calls):
        raise ValueError("not one answer a call")
    return parts


def last(*calls):
    return ask(*calls)[-1]
