"""Entries, which of two is the later one, and what some of them tell."""


class Entry:
    """Tells that a key has a value from one minute up to (without) another."""

    def __init__(self, clock, source, key, from_minute, up_to, value):
        self.clock = clock
        self.source = source
        self.key = key
        self.from_minute = from_minute
        self.up_to = up_to
        self.value = value


def stamp_of(entry):
    """The clock stands first, so that of two such pairs the greater one is the later stamp."""
    return (entry.clock, entry.source)


def tells_of(entry, key, minute):
    return entry.key == key and entry.from_minute <= minute < entry.up_to


def latest(entries, key, minute):
    """The latest entry that tells of the key at the minute; None if there is none."""
    found = None
    for entry in entries:
        if tells_of(entry, key, minute):
            if found is None or stamp_of(entry) > stamp_of(found):
                found = entry
    return found


def value_at(entries, key, minute):
    found = latest(entries, key, minute)
    if found is None:
        return 0
    return found.value


def stamps_known_by(entries):
    """The stamps of those entries that are the latest at one of their minutes, each with True."""
    found = {}
    for entry in entries:
        # Where another entry begins to be the latest, one begins or one ends.
        for minute in (entry.from_minute, entry.up_to):
            by = latest(entries, entry.key, minute)
            if by is not None:
                found[stamp_of(by)] = True
    return found


def entry_told(entry):
    if entry is None:
        return [0, 0, 0]
    return [entry.value, entry.clock, entry.source]


def whole_entry(entry):
    return [entry.clock, entry.source, entry.key, entry.from_minute, entry.up_to, entry.value]
