"""The edges of each range, each refusal, and the order of those that are due together."""

import unittest

from helper import (HUGE, ask, asof, begin, changed, decide, differ, entries, fewest, first, hand, hidden, howlong,
                    knew, knows, last, line, painted, since, sync, unlike, write, wrong)

# Centre 1 has three entries, centre 2 one; decision 5 is there.
START = (write(1, 1, 0, 10, 5), write(1, 1, 5, 15, 6), write(1, 2, 0, 9, 7), write(2, 1, 0, 4, 8),
         decide(1, 5, 1, 0))

# For each call one that is taken, and for each place of its numbers what is in range and what is not.
CENTRE = ((1, 2, 3), (0, 4, -1))
KEY = ((1, 20), (0, 21))
MINUTE = ((0, 999999), (-1, 1000000))
VALUE = ((0, 1000000000), (-1, 1000000001))
FROM = ((0, 6), (-1, 7, 8, 1000000))
UP_TO = ((5, 1000000), (4, 3, 0, -1, 1000001))
BEFORE = ((0, 1000000000), (-1, 1000000001))
NUMBER = ((1, 1000000000), (0, -1, 1000000001))
CLOCK = ((0, 1000000000), (-1, 1000000001))

RANGED = (
    (write(3, 1, 4, 7, 1), (CENTRE, KEY, FROM, UP_TO, VALUE)),
    (hand(1, 3, 0), (CENTRE, CENTRE, BEFORE)),
    (sync(1, 3), (CENTRE, CENTRE)),
    (knows(1, 1, 0), (CENTRE, KEY, MINUTE)),
    (knew(1, 0, 1, 0), (CENTRE, None, KEY, MINUTE)),
    (line(1, 0, 1, 4, 7), (CENTRE, None, KEY, FROM, UP_TO)),
    (since(1, 1, 0), (CENTRE, KEY, MINUTE)),
    (changed(1, 0, 0, 1, 4, 7), (CENTRE, None, None, KEY, FROM, UP_TO)),
    (decide(1, 9, 1, 0), (CENTRE, NUMBER, KEY, MINUTE)),
    (wrong(1), (CENTRE,)),
    (unlike(1, 3), (CENTRE, CENTRE)),
    (entries(1), (CENTRE,)),
    (fewest(1, 1, 4, 7, 4, 9), (CENTRE, KEY, FROM, UP_TO)),
    (painted(1, 1, 4, 7), (CENTRE, KEY, FROM, UP_TO)),
    (howlong(1, 0, 1, 4, 7, 1), (CENTRE, None, KEY, FROM, UP_TO, VALUE)),
    (differ(1, 3, 1, 4, 7), (CENTRE, CENTRE, KEY, FROM, UP_TO)),
    (hidden(1), (CENTRE,)),
    (first(1, 1, 0, 5), (CENTRE, KEY, MINUTE, VALUE)),
    (asof(1, 1, 1, 0), (CENTRE, CLOCK, KEY, MINUTE)),
)


def with_number(call, place, number):
    return call[:place] + [number] + call[place + 1:]


def numbers_in_their_ranges():
    """Each call with each of its numbers replaced: whether it is in range, and the call."""
    cases = []
    for call, ranges in RANGED:
        for place, told in enumerate(ranges, start=1):
            if told is not None:
                cases += [(True, with_number(call, place, number)) for number in told[0]]
                cases += [(False, with_number(call, place, number)) for number in told[1] + (-HUGE, HUGE)]
    return cases


class Ranges(unittest.TestCase):
    def test_out_of_range_is_refused_and_the_edges_are_not(self):
        for inside, call in numbers_in_their_ranges():
            with self.subTest(call=call):
                if inside:
                    self.assertNotEqual(last(*START, call), [-1])
                else:
                    self.assertEqual(last(*START, call), [-1])

    def test_a_window_of_one_minute_at_either_end(self):
        told = ask(write(1, 1, 0, 1, 5), write(1, 1, 999999, 1000000, 6), line(1, 2, 1, 0, 1),
                   line(1, 2, 1, 999999, 1000000), changed(1, 0, 2, 1, 0, 1), changed(1, 0, 2, 1, 999999, 1000000))
        self.assertEqual(told, [[0, 1, 1], [0, 2, 2], [1, 0, 5], [1, 999999, 6], [1, 0, 1, 0, 5],
                                [1, 999999, 1000000, 0, 6]])

    def test_begin_is_never_refused(self):
        self.assertEqual(ask(begin(), *START, begin(), begin())[-2:], [[0], [0]])


class Ticks(unittest.TestCase):
    def test_from_0_to_the_centres_tick_now(self):
        for tick in (0, 1, 2, 3):
            for call in (knew(1, tick, 1, 0), line(1, tick, 1, 0, 9), changed(1, tick, 0, 1, 0, 9),
                         changed(1, 0, tick, 1, 0, 9), howlong(1, tick, 1, 0, 9, 5)):
                with self.subTest(call=call):
                    self.assertNotEqual(last(*START, call), [-5])

    def test_outside(self):
        for tick in (-1, 4, 1000001, -HUGE, HUGE):
            for call in (knew(1, tick, 1, 0), line(1, tick, 1, 0, 9), changed(1, tick, 0, 1, 0, 9),
                         changed(1, 0, tick, 1, 0, 9), changed(1, tick, tick, 1, 0, 9),
                         howlong(1, tick, 1, 0, 9, 5)):
                with self.subTest(call=call):
                    self.assertEqual(last(*START, call), [-5])

    def test_by_the_centre_that_is_asked(self):
        told = ask(*START, knew(2, 1, 1, 0), knew(2, 2, 1, 0), knew(3, 0, 1, 0), knew(3, 1, 1, 0),
                   line(2, 2, 1, 0, 9), changed(2, 0, 2, 1, 0, 9), changed(2, 2, 0, 1, 0, 9),
                   howlong(2, 1, 1, 0, 9, 8), howlong(2, 2, 1, 0, 9, 8), howlong(3, 1, 1, 0, 9, 8))
        self.assertEqual(told[5:], [[8, 1, 2], [-5], [0, 0, 0], [-5], [-5], [-5], [-5], [4], [-5], [-5]])

    def test_the_t_of_asof_is_none(self):
        told = ask(*START, *[asof(1, t, 2, 0) for t in (0, 3, 4, 1000000000, 1000000001, -1)])
        self.assertEqual(told[5:], [[0, 0, 0], [7, 3, 1], [7, 3, 1], [7, 3, 1], [-1], [-1]])


class Order(unittest.TestCase):
    def test_range_before_full(self):
        full = [write(1, 1, 0, 10, 1) for n in range(60)]
        told = ask(*full, write(0, 1, 0, 10, 1), write(1, 1, 0, 10, -1), write(1, 1, 10, 10, 1), write(1, 1, 0, 10, 1))
        self.assertEqual(told[60:], [[-1], [-1], [-1], [-6]])

    def test_range_before_same_centre(self):
        told = ask(hand(0, 0, 0), hand(4, 4, 0), hand(1, 1, -1), sync(0, 0), sync(4, 4), sync(-HUGE, -HUGE))
        self.assertEqual(told, [[-1]] * 6)

    def test_range_before_none_there(self):
        self.assertEqual(ask(hand(1, 2, -1), hand(1, 4, 5), hand(1, 2, HUGE)), [[-1]] * 3)

    def test_same_centre_before_none_there(self):
        self.assertEqual(ask(hand(1, 1, 0), hand(2, 2, 1000000000)), [[-4], [-4]])

    def test_range_before_ticks(self):
        told = ask(knew(0, 1, 1, 0), knew(1, 1, 21, 0), knew(1, -1, 1, -1), line(1, 9, 1, 3, 3), line(4, -1, 1, 0, 1),
                   changed(1, 9, 9, 0, 0, 1), changed(1, HUGE, 0, 1, 0, 1000001))
        self.assertEqual(told, [[-1]] * 7)

    def test_known_number_before_full(self):
        full = [decide(1, j, 1, 0) for j in range(1, 61)]
        told = ask(*full, decide(1, 60, 1, 0), decide(1, 61, 1, 0), decide(1, 60, 0, 0), decide(1, 0, 1, 0))
        self.assertEqual(told[60:], [[-3], [-6], [-1], [-1]])

    def test_range_before_known_number(self):
        told = ask(decide(1, 5, 1, 0), decide(0, 5, 1, 0), decide(1, 5, 21, 0), decide(1, 5, 1, 1000000))
        self.assertEqual(told[1:], [[-1]] * 3)


    def test_range_before_lists(self):
        told = ask(fewest(0, 1, 0, 9), fewest(1, 21, 0, 9, 0), fewest(1, 1, 9, 9, 9, 1), fewest(1, 1, 0, 1000001, 5, 1),
                   fewest(1, 1, -1, 9, -1, 1, 0, -1), fewest(1, 1, HUGE, -HUGE, HUGE, HUGE),
                   painted(4, 1, 0, 9, 1), painted(1, 0, 0, 9, 1, 2), painted(1, 1, 9, 9, 9, 9, 1),
                   painted(1, 1, -1, 9, -1, 9, -1), painted(1, 1, HUGE, -HUGE, HUGE, HUGE, HUGE))
        self.assertEqual(told, [[-1]] * 11)

    def test_lists_before_cells(self):
        many = [number for at in range(20) for number in (at, 1)]
        cut = [write(1, 1, 2 * n, 2 * n + 1, 1) for n in range(10)]
        told = ask(fewest(1, 1, 0, 50, *many), fewest(1, 1, 0, 50, *many, 30), fewest(1, 1, 0, 50, *many[:-1], -1),
                   fewest(1, 1, 0, 19, *many), *cut, fewest(1, 1, 0, 50, 0, 1), fewest(1, 1, 0, 50),
                   fewest(1, 1, 0, 50, 1, 1), fewest(1, 1, 0, 50, 0, 1, 0, 1))
        self.assertEqual(told[:4] + told[14:], [[-11], [-2], [-2], [-2], [-11], [-2], [-2], [-2]])

    def test_range_before_cells(self):
        many = [number for at in range(20) for number in (at, 1)]
        told = ask(fewest(0, 1, 0, 50, *many), fewest(1, 0, 0, 50, *many), fewest(1, 1, 0, 1000001, *many))
        self.assertEqual(told, [[-1]] * 3)

    def test_range_before_ticks_of_howlong(self):
        told = ask(howlong(0, 1, 1, 0, 9, 1), howlong(1, 1, 0, 0, 9, 1), howlong(1, 1, 1, 9, 9, 1),
                   howlong(1, -1, 1, 0, 9, -1), howlong(1, HUGE, 1, 0, 9, 1000000001), howlong(1, 1, 1, 0, 9, 1))
        self.assertEqual(told, [[-1]] * 5 + [[-5]])

    def test_range_before_no_tick_with_the_value(self):
        told = ask(first(0, 1, 0, 5), first(1, 21, 0, 5), first(1, 1, 1000000, 5), first(1, 1, 0, -1),
                   first(1, 1, 0, 1000000001), first(1, 1, 0, 5))
        self.assertEqual(told, [[-1]] * 5 + [[-10]])

    def test_a_centre_may_be_asked_beside_itself(self):
        told = ask(*START, unlike(1, 1), differ(1, 1, 1, 0, 9), unlike(4, 4), differ(0, 0, 1, 0, 9))
        self.assertEqual(told[5:], [[0, 0], [0], [-1], [-1]])


class NothingChanges(unittest.TestCase):
    LOOK = (knows(1, 1, 0), knows(1, 1, 7), knows(2, 1, 0), knows(3, 1, 0), knew(1, 3, 1, 0), knew(1, 4, 1, 0),
            knew(2, 1, 1, 0), knew(2, 2, 1, 0), knew(3, 0, 1, 0), knew(3, 1, 1, 0), line(1, 3, 1, 0, 30),
            changed(1, 0, 3, 2, 0, 30), since(1, 1, 7), decide(1, 9, 1, 0), decide(1, 5, 1, 0),
            wrong(1), entries(1), entries(2), entries(3), unlike(1, 2), hidden(1),
            write(1, 1, 0, 1, 1), write(2, 1, 0, 1, 1), write(3, 1, 0, 1, 1), wrong(1))

    def seen(self, *between):
        return ask(*START, *between, *self.LOOK)[-len(self.LOOK):]

    def test_by_a_refused_call(self):
        refused = [call for inside, call in numbers_in_their_ranges() if not inside]
        refused += [hand(1, 1, 0), sync(2, 2), hand(1, 2, 3), hand(3, 1, 0), decide(2, 5, 1, 0), knew(1, 4, 1, 0),
                    line(2, 2, 1, 0, 9), changed(1, 0, 4, 1, 0, 9), fewest(1, 1, 0, 9), fewest(1, 1, 0, 9, 0, -1),
                    painted(1, 1, 0, 9, 0, 9), painted(1, 1, 0, 9, 0, 10, 1), howlong(1, 4, 1, 0, 9, 5),
                    first(1, 1, 0, 77), fewest(1, 1, 0, 40, *[number for at in range(15) for number in (at, 1)])]
        seen = self.seen()
        for call in refused:
            with self.subTest(call=call):
                self.assertEqual(len(last(*START, call)), 1)
                self.assertEqual(self.seen(call), seen)

    def test_by_a_question(self):
        asked = [knows(1, 1, 0), knew(1, 2, 1, 0), line(1, 3, 1, 0, 30), since(1, 1, 0), changed(1, 1, 3, 1, 0, 30),
                 wrong(1), unlike(1, 2), entries(1), fewest(1, 1, 0, 30, 0, 5, 7, 8), painted(1, 1, 0, 30, 5, 9, 7),
                 howlong(1, 2, 1, 0, 30, 5), differ(1, 2, 1, 0, 30), hidden(1), first(1, 1, 0, 5), asof(1, 1, 1, 0)]
        self.assertEqual(self.seen(*asked), self.seen())


if __name__ == "__main__":
    unittest.main()
