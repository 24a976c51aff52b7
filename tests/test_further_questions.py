"""wrong, unlike, entries, howlong, differ, hidden, first, asof."""

import unittest

from helper import (ask, asof, begin, decide, differ, entries, first, hand, hidden, howlong, knew, last, line, sync,
                    unlike, write, wrong)


class Wrong(unittest.TestCase):
    def test_without_decisions(self):
        self.assertEqual(ask(wrong(1), write(1, 1, 0, 10, 5), wrong(1)), [[0], [0, 1, 1], [0]])

    def test_what_was_known_then_and_is_known_now(self):
        told = ask(write(1, 1, 0, 10, 5), decide(1, 9, 1, 3), wrong(1), write(1, 1, 0, 10, 6), wrong(1),
                   write(1, 1, 3, 4, 0), wrong(1))
        self.assertEqual([told[2], told[4], told[6]], [[0], [1, 9, 5, 6], [1, 9, 5, 0]])

    def test_decided_where_nothing_was_known(self):
        told = ask(decide(1, 9, 1, 3), write(1, 1, 0, 10, 5), wrong(1))
        self.assertEqual(told[-1], [1, 9, 0, 5])

    def test_in_the_order_in_which_they_were_made(self):
        told = ask(write(1, 1, 0, 10, 5), decide(1, 30, 1, 0), decide(1, 10, 1, 1), write(1, 1, 0, 10, 6),
                   decide(1, 20, 1, 2), decide(1, 1000000000, 1, 3), write(1, 1, 0, 3, 7), wrong(1))
        self.assertEqual(told[-1], [3, 30, 5, 7, 10, 5, 7, 20, 6, 7])

    def test_a_value_that_changed_and_changed_back_is_not_told(self):
        told = ask(write(1, 1, 0, 10, 5), decide(1, 9, 1, 3), write(1, 1, 0, 10, 6), write(1, 1, 0, 10, 5), wrong(1))
        self.assertEqual(told[-1], [0])

    def test_another_entry_of_the_same_value_is_no_change(self):
        told = ask(decide(1, 8, 1, 3), write(1, 1, 0, 10, 0), decide(1, 9, 1, 3), wrong(1))
        self.assertEqual(told[-1], [0])

    def test_another_key_and_another_minute_are_no_change(self):
        told = ask(write(1, 1, 0, 10, 5), decide(1, 9, 1, 3), write(1, 2, 0, 10, 6), write(1, 1, 4, 10, 6),
                   write(1, 1, 0, 3, 6), wrong(1))
        self.assertEqual(told[-1], [0])

    def test_only_its_own_by_what_it_knows_itself(self):
        start = (write(1, 1, 0, 10, 5), sync(1, 2), sync(1, 3), decide(1, 1, 1, 0), decide(2, 2, 1, 0),
                 decide(3, 3, 1, 0), write(2, 1, 0, 10, 6))
        told = ask(*start, wrong(1), wrong(2), wrong(3), sync(2, 1), wrong(1), wrong(2), wrong(3))
        self.assertEqual(told[7:], [[0], [1, 2, 5, 6], [0], [0, 1], [1, 1, 5, 6], [1, 2, 5, 6], [0]])

    def test_by_the_tick_of_the_centre_that_decided(self):
        # An earlier stamp that comes later: at the decision's tick the centre had the later one alone.
        told = ask(write(1, 1, 0, 10, 5), write(1, 1, 0, 5, 6), hand(1, 2, 1), decide(2, 4, 1, 7), decide(2, 5, 1, 2),
                   hand(1, 2, 0), wrong(2))
        self.assertEqual(told[-1], [1, 4, 0, 5])

    def test_a_refused_decision_is_none(self):
        told = ask(decide(1, 1, 1, 0), decide(1, 1, 1, 5), decide(1, 2, 0, 5), write(1, 1, 0, 10, 5), wrong(1))
        self.assertEqual(told[-1], [1, 1, 0, 5])

    def test_60_decisions(self):
        decisions = [decide(1, 61 - j, 1, j) for j in range(1, 61)]
        told = ask(*decisions, decide(1, 99, 1, 0), write(1, 1, 0, 1000000, 3), wrong(1))
        self.assertEqual(told[-1], [60] + [number for j in range(1, 61) for number in (61 - j, 0, 3)])

    def test_none_behind_begin(self):
        told = ask(decide(1, 1, 1, 0), begin(), write(1, 1, 0, 10, 5), wrong(1))
        self.assertEqual(told[-1], [0])


class Unlike(unittest.TestCase):
    def test_how_many_each_has_alone(self):
        start = (write(1, 1, 0, 10, 5), write(1, 1, 0, 10, 6), write(1, 1, 0, 10, 7), write(2, 1, 0, 10, 5),
                 hand(1, 2, 1))
        told = ask(*start, unlike(1, 2), unlike(2, 1), unlike(1, 3), unlike(3, 1), unlike(3, 2))
        self.assertEqual(told[5:], [[2, 1], [1, 2], [3, 0], [0, 3], [0, 2]])

    def test_with_itself(self):
        told = ask(unlike(1, 1), write(1, 1, 0, 10, 5), unlike(1, 1), unlike(2, 2), unlike(3, 3))
        self.assertEqual([told[0]] + told[2:], [[0, 0]] * 4)

    def test_by_stamps_and_not_by_what_they_tell(self):
        start = (write(1, 1, 0, 10, 5), write(2, 1, 0, 10, 5))
        self.assertEqual(ask(*start, unlike(1, 2), sync(1, 2), unlike(1, 2))[2:], [[1, 1], [0, 1], [0, 1]])

    def test_same_entries_in_another_order(self):
        start = (write(1, 1, 0, 10, 5), write(1, 2, 0, 10, 6), hand(1, 2, 1), hand(1, 2, 0))
        self.assertEqual(last(*start, unlike(1, 2)), [0, 0])


class Entries(unittest.TestCase):
    def test_none(self):
        self.assertEqual(ask(entries(1), entries(2), entries(3)), [[0, 0]] * 3)

    def test_each_whole(self):
        told = ask(write(1, 20, 0, 1000000, 1000000000), write(1, 1, 7, 9, 0), entries(1))
        self.assertEqual(told[-1], [2, 2, 1, 1, 20, 0, 1000000, 1000000000, 2, 1, 1, 7, 9, 0])

    def test_in_the_order_in_which_it_got_them(self):
        start = (write(1, 1, 0, 10, 5), write(1, 2, 1, 11, 6), write(2, 3, 2, 12, 7), hand(1, 2, 1), hand(1, 2, 0))
        self.assertEqual(last(*start, entries(2)),
                         [2, 3, 1, 2, 3, 2, 12, 7, 2, 1, 2, 1, 11, 6, 1, 1, 1, 0, 10, 5])

    def test_the_clock_that_an_entry_from_another_made_greater(self):
        told = ask(write(1, 1, 0, 10, 5), write(1, 1, 0, 10, 6), write(1, 1, 0, 10, 7), hand(1, 2, 2), entries(2),
                   hand(1, 2, 0), entries(2), write(2, 1, 0, 10, 8), entries(2))
        self.assertEqual(told[4], [3, 1, 3, 1, 1, 0, 10, 7])
        self.assertEqual(told[6], [3, 2, 3, 1, 1, 0, 10, 7, 1, 1, 1, 0, 10, 5])
        self.assertEqual(told[8], [4, 3, 3, 1, 1, 0, 10, 7, 1, 1, 1, 0, 10, 5, 4, 2, 1, 0, 10, 8])

    def test_the_clock_that_a_smaller_one_left(self):
        told = ask(write(1, 1, 0, 10, 5), write(2, 1, 0, 10, 6), write(2, 1, 0, 10, 7), hand(1, 2, 0), entries(2))
        self.assertEqual(told[-1][:2], [2, 3])

    def test_hidden_ones_too_and_none_twice(self):
        told = ask(write(1, 1, 0, 10, 5), write(1, 1, 0, 10, 5), sync(1, 2), sync(1, 2), hand(2, 1, 0), entries(2),
                   entries(1))
        self.assertEqual(told[-2:], [[2, 2, 1, 1, 1, 0, 10, 5, 2, 1, 1, 0, 10, 5]] * 2)

    def test_none_behind_begin(self):
        self.assertEqual(last(write(1, 1, 0, 10, 5), begin(), entries(1)), [0, 0])

    def test_60_at_each_centre(self):
        start = [write(1 + n % 3, 1 + n % 20, n, n + 5, n) for n in range(60)]
        told = ask(*start, sync(1, 2), sync(3, 2), sync(2, 1), sync(2, 3), entries(1), entries(2), entries(3))
        for answer in told[-3:]:
            self.assertEqual(answer[:2], [20, 60])
            self.assertEqual(len(answer), 362)


class Howlong(unittest.TestCase):
    START = (write(1, 1, 10, 20, 5), write(1, 1, 12, 14, 6), write(1, 1, 30, 40, 5), write(1, 2, 0, 50, 5))

    def test_minutes_of_the_window_with_the_value(self):
        told = ask(*self.START, howlong(1, 4, 1, 0, 50, 5), howlong(1, 4, 1, 0, 50, 6), howlong(1, 4, 1, 0, 50, 0),
                   howlong(1, 4, 1, 0, 50, 7), howlong(1, 4, 2, 0, 50, 5))
        self.assertEqual(told[4:], [[18], [2], [30], [0], [50]])

    def test_cut_to_the_window(self):
        told = ask(*self.START, howlong(1, 4, 1, 13, 31, 5), howlong(1, 4, 1, 13, 14, 5), howlong(1, 4, 1, 14, 15, 5),
                   howlong(1, 4, 1, 19, 20, 5), howlong(1, 4, 1, 20, 21, 5), howlong(1, 4, 1, 9, 11, 5))
        self.assertEqual(told[4:], [[7], [0], [1], [1], [0], [1]])

    def test_at_that_tick(self):
        told = ask(*self.START, *[howlong(1, n, 1, 0, 50, 5) for n in range(5)])
        self.assertEqual(told[4:], [[0], [10], [8], [18], [18]])

    def test_0_known_by_an_entry_and_without_one(self):
        told = ask(write(1, 1, 0, 10, 5), write(1, 1, 2, 5, 0), howlong(1, 2, 1, 0, 20, 0), howlong(2, 0, 1, 3, 9, 0))
        self.assertEqual(told[2:], [[13], [6]])

    def test_million_minutes(self):
        told = ask(howlong(1, 0, 1, 0, 1000000, 0), howlong(1, 0, 1, 0, 1000000, 1), write(1, 1, 1, 1000000, 1),
                   howlong(1, 1, 1, 0, 1000000, 1), howlong(1, 1, 1, 0, 1000000, 0), howlong(1, 1, 1, 0, 1, 0),
                   howlong(1, 1, 1, 999999, 1000000, 1))
        self.assertEqual([told[0], told[1]] + told[3:], [[1000000], [0], [999999], [1], [1], [1]])

    def test_all_values_together_fill_the_window(self):
        start = [write(1, 1, n * 7919 % 900000, 900000 + n, n % 5) for n in range(60)]
        told = ask(*start, *[howlong(1, 60, 1, 0, 1000000, v) for v in range(5)])
        self.assertEqual(sum(answer[0] for answer in told[60:]), 1000000)


class Differ(unittest.TestCase):
    START = (write(1, 1, 0, 10, 5), write(2, 1, 5, 15, 6), write(2, 2, 0, 20, 7))

    def test_between_two_centres_and_back(self):
        told = ask(*self.START, differ(1, 2, 1, 0, 20), differ(2, 1, 1, 0, 20), differ(1, 3, 1, 0, 20),
                   differ(1, 2, 2, 3, 4), differ(1, 3, 2, 0, 20))
        self.assertEqual(told[3:], [
            [3, 0, 5, 5, 0, 5, 10, 5, 6, 10, 15, 0, 6],
            [3, 0, 5, 0, 5, 5, 10, 6, 5, 10, 15, 6, 0],
            [1, 0, 10, 5, 0],
            [1, 3, 4, 0, 7],
            [0]])

    def test_with_itself(self):
        told = ask(*self.START, differ(1, 1, 1, 0, 1000000), differ(2, 2, 1, 0, 1000000), differ(3, 3, 1, 0, 1))
        self.assertEqual(told[3:], [[0]] * 3)

    def test_with_the_same_entries_none(self):
        told = ask(*self.START, sync(1, 2), differ(1, 2, 1, 0, 20), sync(2, 1), differ(1, 2, 1, 0, 20))
        self.assertEqual([told[4], told[6]], [[2, 5, 10, 5, 6, 10, 15, 0, 6], [0]])

    def test_unlike_entries_that_tell_the_same(self):
        told = ask(write(1, 1, 0, 10, 5), write(2, 1, 0, 4, 5), write(2, 1, 4, 10, 5), write(2, 1, 20, 30, 0),
                   differ(1, 2, 1, 0, 40))
        self.assertEqual(told[-1], [0])

    def test_as_long_as_can_be_and_kept_apart_by_a_like_stretch(self):
        told = ask(write(1, 1, 0, 3, 5), write(1, 1, 3, 6, 5), write(1, 1, 7, 9, 5), differ(1, 2, 1, 0, 20),
                   differ(1, 2, 1, 4, 8))
        self.assertEqual(told[3:], [[2, 0, 6, 5, 0, 7, 9, 5, 0], [2, 4, 6, 5, 0, 7, 8, 5, 0]])

    def test_what_they_know_now(self):
        told = ask(write(1, 1, 0, 10, 5), sync(1, 2), write(1, 1, 0, 10, 6), differ(1, 2, 1, 0, 10))
        self.assertEqual(told[-1], [1, 0, 10, 6, 5])


class Hidden(unittest.TestCase):
    def test_none(self):
        told = ask(hidden(1), write(1, 1, 0, 10, 5), hidden(1), hidden(2))
        self.assertEqual([told[0], told[2], told[3]], [[0], [0], [0]])

    def test_by_one_later(self):
        told = ask(write(1, 1, 2, 8, 5), write(1, 1, 2, 8, 6), hidden(1))
        self.assertEqual(told[-1], [1, 1, 1])

    def test_by_one_later_with_the_same_value_or_0(self):
        told = ask(write(1, 1, 2, 8, 5), write(1, 1, 2, 8, 5), write(1, 1, 0, 9, 0), hidden(1))
        self.assertEqual(told[-1], [2, 1, 1, 2, 1])

    def test_by_several_later_ones_together(self):
        start = (write(1, 1, 2, 8, 5), write(1, 1, 0, 4, 6), write(1, 1, 6, 10, 7))
        told = ask(*start, hidden(1), write(1, 1, 4, 6, 8), hidden(1))
        self.assertEqual([told[3], told[5]], [[0], [1, 1, 1]])

    def test_one_minute_is_enough_to_be_seen(self):
        for a, b in ((3, 8), (2, 7)):
            told = ask(write(1, 1, 2, 8, 5), write(1, 1, a, b, 6), hidden(1))
            self.assertEqual(told[-1], [0])
        told = ask(write(1, 1, 2, 8, 5), write(1, 1, 2, 5, 6), write(1, 1, 6, 8, 6), hidden(1))
        self.assertEqual(told[-1], [0])

    def test_a_hidden_one_hides_none(self):
        # The second is hidden by the third, which leaves a minute of the first.
        told = ask(write(1, 1, 2, 8, 5), write(1, 1, 3, 8, 6), write(1, 1, 3, 9, 7), hidden(1))
        self.assertEqual(told[-1], [1, 2, 1])

    def test_another_key_hides_none(self):
        told = ask(write(1, 1, 2, 8, 5), write(1, 2, 0, 10, 6), hidden(1))
        self.assertEqual(told[-1], [0])

    def test_by_stamps_in_the_centres_own_order(self):
        start = (write(1, 1, 2, 8, 1), write(1, 1, 2, 8, 2), write(1, 1, 2, 8, 3))
        told = ask(*start, hand(1, 2, 2), hand(1, 2, 1), hand(1, 2, 0), hidden(1), hidden(2))
        self.assertEqual(told[-2:], [[2, 1, 1, 2, 1], [2, 2, 1, 1, 1]])

    def test_same_clock_the_greater_source_hides(self):
        start = (write(1, 1, 2, 8, 1), write(3, 1, 2, 8, 3), sync(1, 3), sync(3, 1))
        self.assertEqual(ask(*start, hidden(1), hidden(3))[-2:], [[1, 1, 1], [1, 1, 1]])

    def test_seen_at_one_centre_and_hidden_at_another(self):
        told = ask(write(1, 1, 2, 8, 1), sync(1, 2), write(2, 1, 2, 8, 2), hidden(1), hidden(2))
        self.assertEqual(told[-2:], [[0], [1, 1, 1]])

    def test_at_the_ends_of_all_minutes(self):
        start = (write(1, 1, 0, 1000000, 1), write(1, 1, 0, 999999, 2))
        told = ask(*start, hidden(1), write(1, 1, 999999, 1000000, 3), hidden(1))
        self.assertEqual([told[2], told[4]], [[0], [1, 1, 1]])


class First(unittest.TestCase):
    def test_0_is_known_at_tick_0(self):
        told = ask(first(1, 1, 0, 0), write(1, 1, 0, 10, 5), first(1, 1, 0, 0), first(2, 20, 999999, 0))
        self.assertEqual([told[0], told[2], told[3]], [[0], [0], [0]])

    def test_the_least_tick(self):
        start = (write(1, 2, 0, 10, 5), write(1, 1, 0, 10, 5), write(1, 1, 0, 10, 6), write(1, 1, 0, 10, 5),
                 write(1, 1, 0, 10, 7))
        told = ask(*start, first(1, 1, 0, 5), first(1, 1, 0, 6), first(1, 1, 9, 7), first(1, 2, 9, 5))
        self.assertEqual(told[5:], [[2], [3], [5], [1]])

    def test_at_no_tick(self):
        start = (write(1, 1, 0, 10, 5),)
        told = ask(*start, first(1, 1, 0, 6), first(1, 1, 10, 5), first(1, 2, 0, 5), first(2, 1, 0, 5),
                   first(1, 1, 0, 1000000000))
        self.assertEqual(told[1:], [[-10]] * 5)

    def test_an_entry_that_never_was_the_latest_there(self):
        start = (write(1, 1, 0, 10, 5), write(1, 1, 0, 5, 6), hand(1, 2, 1), hand(1, 2, 0))
        told = ask(*start, first(2, 1, 0, 5), first(2, 1, 7, 5), first(2, 1, 0, 6))
        self.assertEqual(told[4:], [[-10], [2], [1]])

    def test_its_own_ticks(self):
        start = (write(1, 1, 0, 10, 5), write(2, 2, 0, 10, 5), write(2, 2, 0, 10, 5), sync(1, 2))
        self.assertEqual(ask(*start, first(1, 1, 0, 5), first(2, 1, 0, 5))[4:], [[1], [3]])

    def test_60_entries(self):
        start = [write(1, 1, 0, 10, n) for n in range(1, 61)]
        self.assertEqual(ask(*start, first(1, 1, 0, 60), first(1, 1, 0, 61))[60:], [[60], [-10]])


class Asof(unittest.TestCase):
    # Centre 3 has the clocks 1, 2 and 4: centre 1 writes with 1 and 2, centre 2 with 3 and 4.
    START = (write(1, 1, 0, 10, 5), write(1, 1, 5, 15, 6), hand(1, 2, 1), write(2, 2, 0, 9, 7), write(2, 1, 5, 6, 8),
             hand(2, 3, 2), hand(1, 3, 1), hand(1, 3, 0))

    def test_the_clocks_that_the_start_gives(self):
        told = ask(*self.START, entries(3))
        self.assertEqual(told[-1], [4, 3, 4, 2, 1, 5, 6, 8, 2, 1, 1, 5, 15, 6, 1, 1, 1, 0, 10, 5])

    def test_clocks_at_most_t(self):
        told = ask(*self.START, *[asof(3, t, 1, 5) for t in (0, 1, 2, 3, 4, 5, 1000000000)])
        self.assertEqual(told[8:], [[0, 0, 0], [5, 1, 1], [6, 2, 1], [6, 2, 1], [8, 4, 2], [8, 4, 2], [8, 4, 2]])

    def test_of_that_key_and_minute(self):
        told = ask(*self.START, asof(3, 9, 1, 0), asof(3, 9, 1, 14), asof(3, 9, 1, 15), asof(3, 9, 2, 5),
                   asof(2, 9, 2, 5), asof(2, 2, 2, 5))
        self.assertEqual(told[8:], [[5, 1, 1], [6, 2, 1], [0, 0, 0], [0, 0, 0], [7, 3, 2], [0, 0, 0]])

    def test_t_is_a_clock_and_no_tick(self):
        # One entry, so tick 1; its clock is 3.
        start = (write(1, 1, 0, 9, 1), write(1, 1, 0, 9, 2), write(1, 1, 0, 9, 3), hand(1, 2, 2))
        told = ask(*start, asof(2, 1, 1, 0), asof(2, 2, 1, 0), asof(2, 3, 1, 0), knew(2, 1, 1, 0))
        self.assertEqual(told[4:], [[0, 0, 0], [0, 0, 0], [3, 3, 1], [3, 3, 1]])

    def test_same_clock_the_greater_source(self):
        start = (write(1, 1, 0, 9, 1), write(2, 1, 0, 9, 2), sync(2, 1), write(1, 1, 0, 9, 3))
        self.assertEqual(ask(*start, asof(1, 1, 1, 0), asof(1, 2, 1, 0))[4:], [[2, 1, 2], [3, 2, 1]])

    def test_0_known_by_an_entry(self):
        told = ask(write(1, 1, 0, 9, 1), write(1, 1, 0, 9, 0), asof(1, 2, 1, 0), line(1, 2, 1, 0, 9))
        self.assertEqual(told[2:], [[0, 2, 1], [1, 0, 0]])


if __name__ == "__main__":
    unittest.main()
