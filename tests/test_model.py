"""Long rows of calls against a plain model that goes through every minute by itself."""

import random
import unittest

from helper import ask, by_the_words

MINUTES = 18


def told_rows(rows):
    return [len(rows)] + [number for row in rows for number in row]


def told_changes(both):
    """Of what two tell minute by minute the stretches where they are unlike."""
    told = []
    for m, one, other in both:
        if one != other and told and told[-1][1:] == [m, one, other]:
            told[-1][1] = m + 1
        elif one != other:
            told.append([m, m + 1, one, other])
    return told_rows(told)


class Model:
    def __init__(self):
        self.begin()

    def begin(self):
        self.got = {1: [], 2: [], 3: []}
        self.clocks = {1: 0, 2: 0, 3: 0}
        self.decided = []
        self.written = 0
        return [0]

    def told(self, c, tick, k, m):
        """(clock, source, value) of the latest; sorted by stamps, so the last one counts."""
        of_it = [(clock, source, v) for clock, source, key, a, b, v in self.got[c][:tick] if key == k and a <= m < b]
        return sorted(of_it)[-1] if of_it else (0, 0, 0)

    def value(self, c, tick, k, m):
        return self.told(c, tick, k, m)[2]

    def now(self, c, k, m):
        return self.value(c, self.tick(c), k, m)

    def entry(self, c, tick, k, m):
        clock, source, value = self.told(c, tick, k, m)
        return [value, clock, source]

    def tick(self, c):
        return len(self.got[c])

    def get(self, d, entry):
        if entry in self.got[d]:
            return 0
        self.got[d].append(entry)
        if entry[0] > self.clocks[d]:
            self.clocks[d] = entry[0]
        return 1

    def write(self, c, k, a, b, v):
        if not (1 <= c <= 3 and 1 <= k <= 20 and 0 <= a < b <= 1000000 and 0 <= v <= 1000000000):
            return [-1]
        if self.written == 60:
            return [-6]
        self.written += 1
        self.clocks[c] += 1
        self.got[c].append((self.clocks[c], c, k, a, b, v))
        return [0, self.clocks[c], self.tick(c)]

    def hand(self, c, d, i):
        if not (1 <= c <= 3 and 1 <= d <= 3 and 0 <= i <= 1000000000):
            return [-1]
        if c == d:
            return [-4]
        if i >= self.tick(c):
            return [-10]
        return [0, self.get(d, self.got[c][i])]

    def sync(self, c, d):
        if not (1 <= c <= 3 and 1 <= d <= 3):
            return [-1]
        if c == d:
            return [-4]
        return [0, sum([self.get(d, entry) for entry in sorted(self.got[c])])]

    def knows(self, c, k, m):
        if not (1 <= c <= 3 and 1 <= k <= 20 and 0 <= m <= 999999):
            return [-1]
        return self.entry(c, self.tick(c), k, m)

    def knew(self, c, n, k, m):
        if not (1 <= c <= 3 and 1 <= k <= 20 and 0 <= m <= 999999):
            return [-1]
        if not 0 <= n <= self.tick(c):
            return [-5]
        return self.entry(c, n, k, m)

    def line(self, c, n, k, a, b):
        if not (1 <= c <= 3 and 1 <= k <= 20 and 0 <= a < b <= 1000000):
            return [-1]
        if not 0 <= n <= self.tick(c):
            return [-5]
        values = [self.value(c, n, k, m) for m in range(a, b)]
        runs = [(a + at, v) for at, v in enumerate(values) if at == 0 or values[at - 1] != v]
        return told_rows(runs)

    def since(self, c, k, m):
        if not (1 <= c <= 3 and 1 <= k <= 20 and 0 <= m <= 999999):
            return [-1]
        values = [self.value(c, tick, k, m) for tick in range(self.tick(c) + 1)]
        return [values[-1], min(t for t in range(len(values)) if set(values[t:]) == {values[-1]})]

    def changed(self, c, n, t, k, a, b):
        if not (1 <= c <= 3 and 1 <= k <= 20 and 0 <= a < b <= 1000000):
            return [-1]
        if not (0 <= n <= self.tick(c) and 0 <= t <= self.tick(c)):
            return [-5]
        return told_changes([(m, self.value(c, n, k, m), self.value(c, t, k, m)) for m in range(a, b)])

    def decide(self, c, j, k, m):
        if not (1 <= c <= 3 and 1 <= j <= 1000000000 and 1 <= k <= 20 and 0 <= m <= 999999):
            return [-1]
        if j in [number for number, *others in self.decided]:
            return [-3]
        if len(self.decided) == 60:
            return [-6]
        self.decided.append((j, c, self.tick(c), k, m))
        return [0, self.now(c, k, m)]

    def wrong(self, c):
        if not 1 <= c <= 3:
            return [-1]
        told = [(j, self.value(c, tick, k, m), self.now(c, k, m)) for j, by, tick, k, m in self.decided if by == c]
        return told_rows([row for row in told if row[1] != row[2]])

    def unlike(self, c, d):
        if not (1 <= c <= 3 and 1 <= d <= 3):
            return [-1]
        return [len(set(self.got[c]) - set(self.got[d])), len(set(self.got[d]) - set(self.got[c]))]

    def entries(self, c):
        if not 1 <= c <= 3:
            return [-1]
        return [self.clocks[c]] + told_rows(self.got[c])

    def fewest(self, c, k, a, b, count, *shall):
        if not (1 <= c <= 3 and 1 <= k <= 20 and 0 <= a < b <= 1000000):
            return [-1]
        minutes, values = list(shall[::2]), list(shall[1::2])
        if not shall or len(shall) % 2 or minutes[0] != a or minutes != sorted(set(minutes)) or minutes[-1] >= b:
            return [-2]
        if not all(0 <= v <= 1000000000 for v in values):
            return [-2]
        edges = {edge for clock, source, key, *window, v in self.got[c] if key == k for edge in window}
        cuts = [m for m in range(a, b) if m == a or m in edges or m in minutes]
        if len(cuts) > 14:
            return [-11]
        known = [self.now(c, k, m) for m in cuts]
        wanted = [[v for minute, v in zip(minutes, values) if minute <= m][-1] for m in cuts]
        ends = cuts + [b]
        return told_rows([(ends[i], ends[j], v) for i, j, v in by_the_words(known, wanted)])

    def painted(self, c, k, a, b, count, *strokes):
        if not (1 <= c <= 3 and 1 <= k <= 20 and 0 <= a < b <= 1000000):
            return [-1]
        if len(strokes) % 3:
            return [-2]
        values = {m: self.now(c, k, m) for m in range(a, b)}
        for begins, ends, v in zip(strokes[::3], strokes[1::3], strokes[2::3]):
            if not (a <= begins < ends <= b and 0 <= v <= 1000000000):
                return [-2]
            values.update({m: v for m in range(begins, ends)})
        return told_rows([(m, values[m]) for m in range(a, b) if m == a or values[m - 1] != values[m]])

    def howlong(self, c, n, k, a, b, v):
        if not (1 <= c <= 3 and 1 <= k <= 20 and 0 <= a < b <= 1000000 and 0 <= v <= 1000000000):
            return [-1]
        if not 0 <= n <= self.tick(c):
            return [-5]
        return [[self.value(c, n, k, m) for m in range(a, b)].count(v)]

    def differ(self, c, d, k, a, b):
        if not (1 <= c <= 3 and 1 <= d <= 3 and 1 <= k <= 20 and 0 <= a < b <= 1000000):
            return [-1]
        return told_changes([(m, self.now(c, k, m), self.now(d, k, m)) for m in range(a, b)])

    def hidden(self, c):
        if not 1 <= c <= 3:
            return [-1]
        return told_rows([(clock, source) for clock, source, k, a, b, v in self.got[c]
                          if all(self.told(c, self.tick(c), k, m)[:2] != (clock, source) for m in range(a, b))])

    def first(self, c, k, m, v):
        if not (1 <= c <= 3 and 1 <= k <= 20 and 0 <= m <= 999999 and 0 <= v <= 1000000000):
            return [-1]
        ticks = [tick for tick in range(self.tick(c) + 1) if self.value(c, tick, k, m) == v]
        return ticks[:1] or [-10]

    def asof(self, c, t, k, m):
        if not (1 <= c <= 3 and 0 <= t <= 1000000000 and 1 <= k <= 20 and 0 <= m <= 999999):
            return [-1]
        of_it = [(clock, source, v) for clock, source, key, a, b, v in self.got[c]
                 if clock <= t and key == k and a <= m < b]
        clock, source, v = max(of_it, default=(0, 0, 0))
        return [v, clock, source]

    def answer(self, call):
        names = ("begin", "write", "hand", "sync", "knows", "knew", "line", "since", "changed", "decide",
                 "wrong", "unlike", "entries", "fewest", "painted", "howlong", "differ", "hidden", "first", "asof")
        return getattr(self, names[call[0]])(*call[1:])


def some_call(chance):
    """One number in some dozens is out of its range."""
    def number(low, high):
        return chance.choice((low - 1, high + 1)) if chance.randrange(40) == 0 else chance.randint(low, high)

    def centre():
        return 1 + number(0, 2)

    def window():
        a = chance.randrange(MINUTES)
        return [a, chance.randint(a + 1, MINUTES) if chance.randrange(40) else a]

    def line(a, b):
        # Now and then up to b itself, which is one minute too many.
        behind = range(a + 1, b + (chance.randrange(9) == 0))
        minutes = [a] + sorted(chance.sample(behind, chance.randint(0, min(5, len(behind)))))
        row = [part for m in minutes for part in (m, number(0, 3))]
        return row if chance.randrange(20) else row[1:]

    def strokes(a, b):
        row = []
        for n in range(chance.randint(0, 4)):
            begins = number(a, max(a, b - 1))
            row += [begins, chance.randint(begins + 1, max(begins + 1, b)), number(0, 3)]
        return row if chance.randrange(20) else row[1:]

    def with_row(of_window):
        a, b = window()
        row = of_window(a, b)
        return [centre(), key, a, b, len(row)] + row

    key = chance.randint(1, 2) if chance.randrange(40) else chance.choice((0, 21))
    changing = (1, 1, 1, 1, 1, 1, 2, 2, 2, 2, 3, 3, 9, 9) + (() if chance.randrange(20) else (0,))
    place = chance.choice(changing if chance.randrange(2) else (4, 5, 6, 7, 8, 10, 11, 12, 13, 14, 15, 16, 17, 18, 19))
    behind = {
        0: lambda: [],
        1: lambda: [centre(), key] + window() + [number(0, 3)],
        2: lambda: [centre(), centre(), number(0, 9)],
        3: lambda: [centre(), centre()],
        4: lambda: [centre(), key, number(0, MINUTES)],
        5: lambda: [centre(), number(0, 9), key, number(0, MINUTES)],
        6: lambda: [centre(), number(0, 9), key] + window(),
        7: lambda: [centre(), key, number(0, MINUTES)],
        8: lambda: [centre(), number(0, 9), number(0, 9), key] + window(),
        9: lambda: [centre(), number(1, 90), key, number(0, MINUTES)],
        10: lambda: [centre()],
        11: lambda: [centre(), centre()],
        12: lambda: [centre()],
        13: lambda: with_row(line),
        14: lambda: with_row(strokes),
        15: lambda: [centre(), number(0, 9), key] + window() + [number(0, 3)],
        16: lambda: [centre(), centre(), key] + window(),
        17: lambda: [centre()],
        18: lambda: [centre(), key, number(0, MINUTES), number(0, 3)],
        19: lambda: [centre(), number(0, 20), key, number(0, MINUTES)],
    }
    return [place] + behind[place]()


class AgainstTheModel(unittest.TestCase):
    def test_long_rows_of_calls(self):
        for seed in range(150):
            chance = random.Random(seed)
            calls = [some_call(chance) for n in range(chance.choice((30, 300)))]
            model = Model()
            told = [model.answer(call) for call in calls]
            with self.subTest(seed=seed):
                self.assertEqual(ask(*calls), told)


if __name__ == "__main__":
    unittest.main()
