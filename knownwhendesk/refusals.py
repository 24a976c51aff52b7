"""Which refusal is due to a call, before it changes anything."""

from knownwhendesk.bounds import in_range
from knownwhendesk.forms import DECIDE, FEWEST, FIRST, HAND, SYNC, WRITE
from knownwhendesk.rows import are_strokes, is_line
from knownwhendesk.strokes import cell_starts

NONE_DUE = 0
OUT_OF_RANGE = -1
LIST_NOT_AS_TOLD = -2
KNOWN_DECISION = -3
SAME_CENTRE = -4
NO_SUCH_TICK = -5
FULL = -6
NOT_THERE = -10
TOO_MANY_CELLS = -11

MOST_WRITTEN = 60
MOST_DECISIONS = 60
MOST_CELLS = 14


def lists_as_told(numbers):
    if "shall" in numbers and not is_line(numbers["shall"], numbers["a"], numbers["b"]):
        return False
    return "strokes" not in numbers or are_strokes(numbers["strokes"], numbers["a"], numbers["b"])


def is_full(desk, place):
    if place == WRITE:
        return desk.written >= MOST_WRITTEN
    return place == DECIDE and len(desk.decisions) >= MOST_DECISIONS


def ticks_there(desk, numbers):
    for letter in ("n", "t"):
        if letter in numbers and not 0 <= numbers[letter] <= desk.centres[numbers["c"]].tick_now():
            return False
    return True


def is_missing(desk, place, numbers):
    if place == HAND:
        return numbers["i"] >= desk.centres[numbers["c"]].tick_now()
    if place == FIRST:
        return desk.centres[numbers["c"]].first_tick(numbers["k"], numbers["m"], numbers["v"]) is None
    return False


def has_too_many_cells(desk, place, numbers):
    if place != FEWEST:
        return False
    entries = desk.centres[numbers["c"]].entries
    minutes = cell_starts(entries, numbers["k"], numbers["a"], numbers["b"], numbers["shall"])
    return len(minutes) > MOST_CELLS


def refusal(desk, place, numbers):
    """Asked in the order in which the document tells them, so the first one due is answered."""
    if not in_range(numbers):
        return OUT_OF_RANGE
    if not lists_as_told(numbers):
        return LIST_NOT_AS_TOLD
    if place in (HAND, SYNC) and numbers["c"] == numbers["d"]:
        return SAME_CENTRE
    if place == DECIDE and desk.has_decision(numbers["j"]):
        return KNOWN_DECISION
    if is_full(desk, place):
        return FULL
    if not ticks_there(desk, numbers):
        return NO_SUCH_TICK
    if is_missing(desk, place, numbers):
        return NOT_THERE
    if has_too_many_cells(desk, place, numbers):
        return TOO_MANY_CELLS
    return NONE_DUE
