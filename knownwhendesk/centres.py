"""The calls on one set of centres, and their answers."""

from knownwhendesk.desk import Desk
from knownwhendesk.entry import entry_told, latest, stamp_of, value_at
from knownwhendesk.forms import numbers_behind
from knownwhendesk.lines import changes_between, line_of
from knownwhendesk.refusals import NONE_DUE, refusal


def counted(rows):
    """How many rows, and behind that the numbers of each."""
    numbers = [len(rows)]
    for row in rows:
        numbers.extend(row)
    return numbers


def begin(desk, numbers):
    desk.begin()
    return [0]


def write(desk, numbers):
    c = numbers["c"]
    entry = desk.write(c, numbers["k"], numbers["a"], numbers["b"], numbers["v"])
    return [0, entry.clock, desk.centres[c].tick_now()]


def hand(desk, numbers):
    giver = desk.centres[numbers["c"]]
    taker = desk.centres[numbers["d"]]
    return [0, taker.take(giver.entries[numbers["i"]])]


def sync(desk, numbers):
    giver = desk.centres[numbers["c"]]
    taker = desk.centres[numbers["d"]]
    new = 0
    for entry in sorted(giver.entries, key=stamp_of):
        new = new + taker.take(entry)
    return [0, new]


def knows(desk, numbers):
    entries = desk.centres[numbers["c"]].entries
    return entry_told(latest(entries, numbers["k"], numbers["m"]))


def knew(desk, numbers):
    entries = desk.centres[numbers["c"]].at_tick(numbers["n"])
    return entry_told(latest(entries, numbers["k"], numbers["m"]))


def line(desk, numbers):
    entries = desk.centres[numbers["c"]].at_tick(numbers["n"])
    return counted(line_of(entries, numbers["k"], numbers["a"], numbers["b"]))


def since(desk, numbers):
    centre = desk.centres[numbers["c"]]
    key = numbers["k"]
    minute = numbers["m"]
    now = value_at(centre.entries, key, minute)
    tick = centre.tick_now()
    while tick > 0 and value_at(centre.at_tick(tick - 1), key, minute) == now:
        tick = tick - 1
    return [now, tick]


def changed(desk, numbers):
    centre = desk.centres[numbers["c"]]
    one = centre.at_tick(numbers["n"])
    other = centre.at_tick(numbers["t"])
    return counted(changes_between(one, other, numbers["k"], numbers["a"], numbers["b"]))


def decide(desk, numbers):
    c = numbers["c"]
    key = numbers["k"]
    minute = numbers["m"]
    desk.decide(numbers["j"], c, key, minute)
    return [0, value_at(desk.centres[c].entries, key, minute)]


# By place, from 0 on, as in FORMS.
ANSWERERS = (begin, write, hand, sync, knows, knew, line, since, changed, decide)


def answer_to(desk, place, numbers):
    due = refusal(desk, place, numbers)
    if due != NONE_DUE:
        return [due]
    answerer = ANSWERERS[place]
    return answerer(desk, numbers)


def answers(calls):
    """For each call, in order: how many numbers are answered, and these."""
    desk = Desk()
    given = []
    at = 0
    while at < len(calls):
        numbers = numbers_behind(calls, at)
        answer = answer_to(desk, calls[at], numbers)
        given.append(len(answer))
        given.extend(answer)
        at = at + 1 + len(numbers)
    return given
