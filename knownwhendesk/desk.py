"""What is kept: three centres with their entries, and the decisions."""

from knownwhendesk.entry import Entry, stamp_of, value_at


class Centre:
    """A clock, and the entries in the order in which the centre got them."""

    def __init__(self, number):
        self.number = number
        self.clock = 0
        self.entries = []

    def tick_now(self):
        return len(self.entries)

    def at_tick(self, tick):
        """The entries that the centre had at that tick."""
        return self.entries[:tick]

    def has(self, entry):
        return stamp_of(entry) in [stamp_of(own) for own in self.entries]

    def knew(self, tick, key, minute):
        return value_at(self.at_tick(tick), key, minute)

    def knows(self, key, minute):
        return value_at(self.entries, key, minute)

    def first_tick(self, key, minute, value):
        """The least tick at which the centre knew the value; None if at no tick."""
        for tick in range(self.tick_now() + 1):
            if self.knew(tick, key, minute) == value:
                return tick
        return None

    def write(self, key, a, b, value):
        self.clock = self.clock + 1
        entry = Entry(self.clock, self.number, key, a, b, value)
        self.entries.append(entry)
        return entry

    def take(self, entry):
        """Gets an entry from another centre; answers how many were new: 1 or 0."""
        if self.has(entry):
            return 0
        self.entries.append(entry)
        self.clock = max(self.clock, entry.clock)
        return 1

    def entries_if_written(self, key, strokes):
        """The entries that the centre would have if it wrote these (from, up to, value); it writes none."""
        would_have = list(self.entries)
        for clock, stroke in enumerate(strokes, start=self.clock + 1):
            would_have.append(Entry(clock, self.number, key, stroke[0], stroke[1], stroke[2]))
        return would_have


class Decision:
    """Which centre decided, at which tick of its own, by what it knew of a key at a minute."""

    def __init__(self, number, centre, tick, key, minute):
        self.number = number
        self.centre = centre
        self.tick = tick
        self.key = key
        self.minute = minute


class Desk:
    """The three centres by their numbers, the decisions in their order, and how many entries were written."""

    def __init__(self):
        self.begin()

    def begin(self):
        self.centres = {1: Centre(1), 2: Centre(2), 3: Centre(3)}
        self.decisions = []
        self.written = 0

    def write(self, c, key, a, b, value):
        self.written = self.written + 1
        return self.centres[c].write(key, a, b, value)

    def decide(self, number, c, key, minute):
        tick = self.centres[c].tick_now()
        self.decisions.append(Decision(number, c, tick, key, minute))

    def has_decision(self, number):
        return number in [decision.number for decision in self.decisions]
