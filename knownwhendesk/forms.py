"""The places of the calls and what stands behind each, by the letters that the document gives them."""

WRITE = 1
HAND = 2
SYNC = 3
DECIDE = 9
FEWEST = 13
FIRST = 18

# By place, from 0 on. The t of asof is a clock, no tick as the t of changed: so it has a name of its own here.
FORMS = (
    (),
    ("c", "k", "a", "b", "v"),
    ("c", "d", "i"),
    ("c", "d"),
    ("c", "k", "m"),
    ("c", "n", "k", "m"),
    ("c", "n", "k", "a", "b"),
    ("c", "k", "m"),
    ("c", "n", "t", "k", "a", "b"),
    ("c", "j", "k", "m"),
    ("c",),
    ("c", "d"),
    ("c",),
    ("c", "k", "a", "b", "shall"),
    ("c", "k", "a", "b", "strokes"),
    ("c", "n", "k", "a", "b", "v"),
    ("c", "d", "k", "a", "b"),
    ("c",),
    ("c", "k", "m", "v"),
    ("c", "clock", "k", "m"),
)

# What is no number but a further row, with how many numbers it has before it.
LISTS = ("shall", "strokes")


class Call:
    """A place, what stands behind it by its names, and the index at which the call has ended."""

    def __init__(self, place, numbers, end):
        self.place = place
        self.numbers = numbers
        self.end = end


def call_at(calls, at):
    """The call whose place stands at that index."""
    place = calls[at]
    numbers = {}
    end = at + 1
    for letter in FORMS[place]:
        if letter in LISTS:
            begins = end + 1
            end = begins + calls[end]
            numbers[letter] = calls[begins:end]
        else:
            numbers[letter] = calls[end]
            end = end + 1
    return Call(place, numbers, end)
