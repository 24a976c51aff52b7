"""Long rows of calls against a plain model that goes through every minute by itself."""

import random
import unittest

from helper import ask

MINUTES = 14


class Model:
    def __init__(self):
        self.begin()

    def begin(self):
        self.got = {1: [], 2: [], 3: []}
        self.clocks = {1: 0, 2: 0, 3: 0}
        self.decided = {}
        self.written = 0
        return [0]

    def told(self, c, tick, k, m):
        """(clock, source, value) of the latest; sorted by stamps, so the last one counts."""
        of_it = [(clock, source, v) for clock, source, key, a, b, v in self.got[c][:tick] if key == k and a <= m < b]
        return sorted(of_it)[-1] if of_it else (0, 0, 0)

    def value(self, c, tick, k, m):
        return self.told(c, tick, k, m)[2]

    def entry(self, c, tick, k, m):
        clock, source, value = self.told(c, tick, k, m)
        return [value, clock, source]

    def tick(self, c):
        return len(self.got[c])

    def get(self, d, entry):
        if entry in self.got[d]:
            return 0
        self.got[d].append(entry)
        if entry[0] > self.clocks[d]:
            self.clocks[d] = entry[0]
        return 1

    def write(self, c, k, a, b, v):
        if not (1 <= c <= 3 and 1 <= k <= 20 and 0 <= a < b <= 1000000 and 0 <= v <= 1000000000):
            return [-1]
        if self.written == 60:
            return [-6]
        self.written += 1
        self.clocks[c] += 1
        self.got[c].append((self.clocks[c], c, k, a, b, v))
        return [0, self.clocks[c], self.tick(c)]

    def hand(self, c, d, i):
        if not (1 <= c <= 3 and 1 <= d <= 3 and 0 <= i <= 1000000000):
            return [-1]
        if c == d:
            return [-4]
        if i >= self.tick(c):
            return [-10]
        return [0, self.get(d, self.got[c][i])]

    def sync(self, c, d):
        if not (1 <= c <= 3 and 1 <= d <= 3):
            return [-1]
        if c == d:
            return [-4]
        return [0, sum([self.get(d, entry) for entry in sorted(self.got[c])])]

    def knows(self, c, k, m):
        if not (1 <= c <= 3 and 1 <= k <= 20 and 0 <= m <= 999999):
            return [-1]
        return self.entry(c, self.tick(c), k, m)

    def knew(self, c, n, k, m):
        if not (1 <= c <= 3 and 1 <= k <= 20 and 0 <= m <= 999999):
            return [-1]
        if not 0 <= n <= self.tick(c):
            return [-5]
        return self.entry(c, n, k, m)

    def line(self, c, n, k, a, b):
        if not (1 <= c <= 3 and 1 <= k <= 20 and 0 <= a < b <= 1000000):
            return [-1]
        if not 0 <= n <= self.tick(c):
            return [-5]
        values = [self.value(c, n, k, m) for m in range(a, b)]
        runs = [(a + at, v) for at, v in enumerate(values) if at == 0 or values[at - 1] != v]
        return [len(runs)] + [number for run in runs for number in run]

    def since(self, c, k, m):
        if not (1 <= c <= 3 and 1 <= k <= 20 and 0 <= m <= 999999):
            return [-1]
        values = [self.value(c, tick, k, m) for tick in range(self.tick(c) + 1)]
        return [values[-1], min(t for t in range(len(values)) if set(values[t:]) == {values[-1]})]

    def changed(self, c, n, t, k, a, b):
        if not (1 <= c <= 3 and 1 <= k <= 20 and 0 <= a < b <= 1000000):
            return [-1]
        if not (0 <= n <= self.tick(c) and 0 <= t <= self.tick(c)):
            return [-5]
        told = []
        for m in range(a, b):
            one, other = self.value(c, n, k, m), self.value(c, t, k, m)
            if one != other and told and told[-1][1:] == [m, one, other]:
                told[-1][1] = m + 1
            elif one != other:
                told.append([m, m + 1, one, other])
        return [len(told)] + [number for stretch in told for number in stretch]

    def decide(self, c, j, k, m):
        if not (1 <= c <= 3 and 1 <= j <= 1000000000 and 1 <= k <= 20 and 0 <= m <= 999999):
            return [-1]
        if j in self.decided:
            return [-3]
        if len(self.decided) == 60:
            return [-6]
        self.decided[j] = True
        return [0, self.value(c, self.tick(c), k, m)]

    def answer(self, call):
        names = ("begin", "write", "hand", "sync", "knows", "knew", "line", "since", "changed", "decide")
        return getattr(self, names[call[0]])(*call[1:])


def some_call(chance):
    """One number in some dozens is out of its range."""
    def number(low, high):
        return chance.choice((low - 1, high + 1)) if chance.randrange(40) == 0 else chance.randint(low, high)

    def centre():
        return 1 + number(0, 2)

    def window():
        a = chance.randrange(MINUTES)
        return [a, chance.randint(a + 1, MINUTES) if chance.randrange(40) else a]

    key = chance.randint(1, 2) if chance.randrange(40) else chance.choice((0, 21))
    place = chance.choice((1, 1, 1, 1, 2, 2, 2, 3, 4, 5, 6, 7, 8, 9) + (() if chance.randrange(20) else (0,)))
    behind = {
        0: lambda: [],
        1: lambda: [centre(), key] + window() + [number(0, 3)],
        2: lambda: [centre(), centre(), number(0, 9)],
        3: lambda: [centre(), centre()],
        4: lambda: [centre(), key, number(0, MINUTES)],
        5: lambda: [centre(), number(0, 9), key, number(0, MINUTES)],
        6: lambda: [centre(), number(0, 9), key] + window(),
        7: lambda: [centre(), key, number(0, MINUTES)],
        8: lambda: [centre(), number(0, 9), number(0, 9), key] + window(),
        9: lambda: [centre(), number(1, 90), key, number(0, MINUTES)],
    }
    return [place] + behind[place]()


class AgainstTheModel(unittest.TestCase):
    def test_long_rows_of_calls(self):
        for seed in range(60):
            chance = random.Random(seed)
            calls = [some_call(chance) for n in range(chance.choice((30, 300)))]
            model = Model()
            told = [model.answer(call) for call in calls]
            with self.subTest(seed=seed):
                self.assertEqual(ask(*calls), told)


if __name__ == "__main__":
    unittest.main()
