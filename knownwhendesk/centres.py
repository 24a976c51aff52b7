"""The calls on one set of centres, and their answers."""

from knownwhendesk.desk import Desk
from knownwhendesk.entry import entry_told, latest, stamp_of, stamps_known_by, whole_entry
from knownwhendesk.forms import call_at
from knownwhendesk.lines import changes_between, line_of, minutes_with
from knownwhendesk.refusals import NONE_DUE, refusal
from knownwhendesk.rows import pieces_of
from knownwhendesk.strokes import fewest_strokes


def counted(rows):
    """How many rows, and behind that the numbers of each."""
    numbers = [len(rows)]
    for row in rows:
        numbers.extend(row)
    return numbers


def begin(desk, numbers):
    desk.begin()
    return [0]


def write(desk, numbers):
    c = numbers["c"]
    entry = desk.write(c, numbers["k"], numbers["a"], numbers["b"], numbers["v"])
    return [0, entry.clock, desk.centres[c].tick_now()]


def hand(desk, numbers):
    giver = desk.centres[numbers["c"]]
    taker = desk.centres[numbers["d"]]
    return [0, taker.take(giver.entries[numbers["i"]])]


def sync(desk, numbers):
    giver = desk.centres[numbers["c"]]
    taker = desk.centres[numbers["d"]]
    new = 0
    for entry in sorted(giver.entries, key=stamp_of):
        new = new + taker.take(entry)
    return [0, new]


def knows(desk, numbers):
    centre = desk.centres[numbers["c"]]
    return entry_told(latest(centre.entries, numbers["k"], numbers["m"]))


def knew(desk, numbers):
    centre = desk.centres[numbers["c"]]
    return entry_told(latest(centre.at_tick(numbers["n"]), numbers["k"], numbers["m"]))


def line(desk, numbers):
    centre = desk.centres[numbers["c"]]
    return counted(line_of(centre.at_tick(numbers["n"]), numbers["k"], numbers["a"], numbers["b"]))


def since(desk, numbers):
    centre = desk.centres[numbers["c"]]
    key = numbers["k"]
    minute = numbers["m"]
    now = centre.knows(key, minute)
    tick = centre.tick_now()
    while tick > 0 and centre.knew(tick - 1, key, minute) == now:
        tick = tick - 1
    return [now, tick]


def changed(desk, numbers):
    centre = desk.centres[numbers["c"]]
    one = centre.at_tick(numbers["n"])
    other = centre.at_tick(numbers["t"])
    return counted(changes_between(one, other, numbers["k"], numbers["a"], numbers["b"]))


def decide(desk, numbers):
    c = numbers["c"]
    key = numbers["k"]
    minute = numbers["m"]
    desk.decide(numbers["j"], c, key, minute)
    return [0, desk.centres[c].knows(key, minute)]


def wrong(desk, numbers):
    c = numbers["c"]
    centre = desk.centres[c]
    rows = []
    for decision in [made for made in desk.decisions if made.centre == c]:
        then = centre.knew(decision.tick, decision.key, decision.minute)
        now = centre.knows(decision.key, decision.minute)
        if then != now:
            rows.append((decision.number, then, now))
    return counted(rows)


def unlike(desk, numbers):
    one = desk.centres[numbers["c"]]
    other = desk.centres[numbers["d"]]
    only_one = [entry for entry in one.entries if not other.has(entry)]
    only_other = [entry for entry in other.entries if not one.has(entry)]
    return [len(only_one), len(only_other)]


def all_entries(desk, numbers):
    centre = desk.centres[numbers["c"]]
    return [centre.clock] + counted([whole_entry(entry) for entry in centre.entries])


def fewest(desk, numbers):
    centre = desk.centres[numbers["c"]]
    return counted(fewest_strokes(centre.entries, numbers["k"], numbers["a"], numbers["b"], numbers["shall"]))


def painted(desk, numbers):
    key = numbers["k"]
    strokes = pieces_of(numbers["strokes"], 3)
    would_have = desk.centres[numbers["c"]].entries_if_written(key, strokes)
    return counted(line_of(would_have, key, numbers["a"], numbers["b"]))


def howlong(desk, numbers):
    centre = desk.centres[numbers["c"]]
    had = centre.at_tick(numbers["n"])
    return [minutes_with(had, numbers["k"], numbers["a"], numbers["b"], numbers["v"])]


def differ(desk, numbers):
    one = desk.centres[numbers["c"]].entries
    other = desk.centres[numbers["d"]].entries
    return counted(changes_between(one, other, numbers["k"], numbers["a"], numbers["b"]))


def hidden(desk, numbers):
    centre = desk.centres[numbers["c"]]
    seen = stamps_known_by(centre.entries)
    return counted([stamp_of(entry) for entry in centre.entries if stamp_of(entry) not in seen])


def first(desk, numbers):
    return [desk.centres[numbers["c"]].first_tick(numbers["k"], numbers["m"], numbers["v"])]


def asof(desk, numbers):
    centre = desk.centres[numbers["c"]]
    early = [entry for entry in centre.entries if entry.clock <= numbers["clock"]]
    return entry_told(latest(early, numbers["k"], numbers["m"]))


# By place, from 0 on, as in FORMS.
ANSWERERS = (
    begin, write, hand, sync, knows, knew, line, since, changed, decide,
    wrong, unlike, all_entries, fewest, painted, howlong, differ, hidden, first, asof,
)


def answer_to(desk, place, numbers):
    due = refusal(desk, place, numbers)
    if due != NONE_DUE:
        return [due]
    answerer = ANSWERERS[place]
    return answerer(desk, numbers)


def answers(calls):
    """For each call, in order: how many numbers are answered, and these."""
    desk = Desk()
    given = []
    at = 0
    while at < len(calls):
        call = call_at(calls, at)
        answer = answer_to(desk, call.place, call.numbers)
        given.append(len(answer))
        given.extend(answer)
        at = call.end
    return given
