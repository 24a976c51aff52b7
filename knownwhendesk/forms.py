"""The places of the calls and the numbers behind each, by the letters that the document gives them."""

WRITE = 1
HAND = 2
SYNC = 3
DECIDE = 9

# By place, from 0 on.
FORMS = (
    (),
    ("c", "k", "a", "b", "v"),
    ("c", "d", "i"),
    ("c", "d"),
    ("c", "k", "m"),
    ("c", "n", "k", "m"),
    ("c", "n", "k", "a", "b"),
    ("c", "k", "m"),
    ("c", "n", "t", "k", "a", "b"),
    ("c", "j", "k", "m"),
)


def numbers_behind(calls, at):
    """The numbers of the call whose place stands at that index, by their letters."""
    letters = FORMS[calls[at]]
    return dict(zip(letters, calls[at + 1:at + 1 + len(letters)]))
