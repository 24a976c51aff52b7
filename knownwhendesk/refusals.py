"""Which refusal is due to a call, before it changes anything."""

from knownwhendesk.forms import DECIDE, HAND, SYNC, WRITE

NONE_DUE = 0
OUT_OF_RANGE = -1
KNOWN_DECISION = -3
SAME_CENTRE = -4
NO_SUCH_TICK = -5
FULL = -6
NOT_THERE = -10

MOST_WRITTEN = 60
MOST_DECISIONS = 60

# The ticks n and t are not here: theirs depends on the centre, and has a refusal of its own.
RANGES = {
    "c": (1, 3),
    "d": (1, 3),
    "k": (1, 20),
    "m": (0, 999999),
    "a": (0, 999999),
    "b": (1, 1000000),
    "v": (0, 1000000000),
    "i": (0, 1000000000),
    "j": (1, 1000000000),
}


def in_range(numbers):
    for letter in numbers:
        if letter in RANGES and not RANGES[letter][0] <= numbers[letter] <= RANGES[letter][1]:
            return False
    return "b" not in numbers or numbers["a"] < numbers["b"]


def is_full(desk, place):
    if place == WRITE:
        return desk.written >= MOST_WRITTEN
    return place == DECIDE and len(desk.decisions) >= MOST_DECISIONS


def ticks_there(desk, numbers):
    for letter in ("n", "t"):
        if letter in numbers and not 0 <= numbers[letter] <= desk.centres[numbers["c"]].tick_now():
            return False
    return True


def refusal(desk, place, numbers):
    """Asked in the order in which the document tells them, so the first one due is answered."""
    if not in_range(numbers):
        return OUT_OF_RANGE
    if place in (HAND, SYNC) and numbers["c"] == numbers["d"]:
        return SAME_CENTRE
    if place == DECIDE and desk.has_decision(numbers["j"]):
        return KNOWN_DECISION
    if is_full(desk, place):
        return FULL
    if not ticks_there(desk, numbers):
        return NO_SUCH_TICK
    if place == HAND and numbers["i"] >= desk.centres[numbers["c"]].tick_now():
        return NOT_THERE
    return NONE_DUE
