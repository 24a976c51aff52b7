"""knows, knew, line, since, changed."""

import unittest

from helper import ask, changed, hand, knew, knows, last, line, since, sync, write


class Knows(unittest.TestCase):
    def test_the_later_clock(self):
        told = ask(write(1, 1, 0, 10, 5), write(1, 1, 5, 15, 6), knows(1, 1, 4), knows(1, 1, 5), knows(1, 1, 14))
        self.assertEqual(told[2:], [[5, 1, 1], [6, 2, 1], [6, 2, 1]])

    def test_same_clock_the_greater_source_whatever_came_last(self):
        start = (write(1, 1, 0, 10, 5), write(2, 1, 0, 10, 6), write(3, 1, 0, 10, 7))
        told = ask(*start, hand(1, 2, 0), hand(2, 1, 0), knows(1, 1, 0), knows(2, 1, 0),
                   hand(3, 1, 0), hand(2, 3, 0), hand(1, 3, 0), knows(1, 1, 0), knows(3, 1, 0))
        self.assertEqual(told[5:7], [[6, 1, 2], [6, 1, 2]])
        self.assertEqual(told[10:], [[7, 1, 3], [7, 1, 3]])

    def test_a_greater_clock_beats_a_greater_source(self):
        told = ask(write(1, 1, 0, 10, 5), write(1, 1, 0, 10, 6), write(3, 1, 0, 10, 7), hand(3, 1, 0),
                   hand(1, 3, 1), knows(1, 1, 0), knows(3, 1, 0))
        self.assertEqual(told[-2:], [[6, 2, 1], [6, 2, 1]])

    def test_an_earlier_entry_that_comes_later_hides_nothing(self):
        told = ask(write(1, 1, 0, 10, 5), write(1, 1, 0, 10, 6), hand(1, 2, 1), hand(1, 2, 0), knows(2, 1, 0))
        self.assertEqual(told[-1], [6, 2, 1])

    def test_value_0_is_known_by_an_entry(self):
        told = ask(write(1, 1, 0, 10, 5), write(1, 1, 0, 10, 0), knows(1, 1, 0), knows(1, 1, 10))
        self.assertEqual(told[2:], [[0, 2, 1], [0, 0, 0]])

    def test_last_minute_and_last_key(self):
        told = ask(write(3, 20, 999999, 1000000, 1000000000), knows(3, 20, 999999), knows(3, 20, 999998),
                   knows(3, 19, 999999))
        self.assertEqual(told[1:], [[1000000000, 1, 3], [0, 0, 0], [0, 0, 0]])


class Knew(unittest.TestCase):
    def test_at_each_tick(self):
        start = (write(1, 1, 0, 10, 5), write(1, 2, 0, 10, 6), write(1, 1, 0, 10, 7))
        told = ask(*start, knew(1, 0, 1, 0), knew(1, 1, 1, 0), knew(1, 2, 1, 0), knew(1, 3, 1, 0))
        self.assertEqual(told[3:], [[0, 0, 0], [5, 1, 1], [5, 1, 1], [7, 3, 1]])

    def test_ticks_count_in_the_order_got_not_by_stamps(self):
        start = (write(1, 1, 0, 10, 5), write(1, 1, 5, 15, 6), hand(1, 2, 1), hand(1, 2, 0))
        told = ask(*start, knew(2, 1, 1, 0), knew(2, 1, 1, 5), knew(2, 2, 1, 0), knew(2, 2, 1, 5))
        self.assertEqual(told[4:], [[0, 0, 0], [6, 2, 1], [5, 1, 1], [6, 2, 1]])

    def test_tick_is_the_named_centres(self):
        told = ask(write(1, 1, 0, 10, 5), knew(1, 1, 1, 0), knew(2, 0, 1, 0), knew(2, 1, 1, 0))
        self.assertEqual(told[1:], [[5, 1, 1], [0, 0, 0], [-5]])


class Line(unittest.TestCase):
    def test_without_entries_one_run(self):
        self.assertEqual(last(line(1, 0, 1, 0, 1000000)), [1, 0, 0])
        self.assertEqual(last(line(1, 0, 1, 7, 8)), [1, 7, 0])

    def test_runs_one_behind_the_other(self):
        start = (write(1, 1, 0, 10, 5), write(1, 1, 4, 6, 7))
        self.assertEqual(last(*start, line(1, 2, 1, 0, 20)), [4, 0, 5, 4, 7, 6, 5, 10, 0])

    def test_neighbouring_runs_of_one_value_are_joined(self):
        start = (write(1, 1, 0, 10, 5), write(1, 1, 10, 20, 5), write(1, 1, 5, 15, 5), write(1, 1, 25, 30, 0))
        self.assertEqual(last(*start, line(1, 4, 1, 0, 40)), [2, 0, 5, 20, 0])

    def test_the_same_value_apart_stays_apart(self):
        start = (write(1, 1, 0, 2, 5), write(1, 1, 4, 6, 5))
        self.assertEqual(last(*start, line(1, 2, 1, 0, 8)), [4, 0, 5, 2, 0, 4, 5, 6, 0])

    def test_begins_at_a_and_ends_before_b(self):
        start = (write(1, 1, 0, 10, 5), write(1, 1, 10, 20, 6), write(1, 1, 20, 30, 7))
        told = ask(*start, line(1, 3, 1, 10, 20), line(1, 3, 1, 9, 20), line(1, 3, 1, 10, 21), line(1, 3, 1, 19, 20),
                   line(1, 3, 1, 12, 13))
        self.assertEqual(told[3:], [[1, 10, 6], [2, 9, 5, 10, 6], [2, 10, 6, 20, 7], [1, 19, 6], [1, 12, 6]])

    def test_at_an_earlier_tick(self):
        start = (write(1, 1, 0, 10, 5), write(1, 1, 4, 6, 7))
        told = ask(*start, line(1, 0, 1, 0, 20), line(1, 1, 1, 0, 20))
        self.assertEqual(told[2:], [[1, 0, 0], [2, 0, 5, 10, 0]])

    def test_of_that_key_alone(self):
        start = (write(1, 1, 0, 10, 5), write(1, 2, 4, 6, 7))
        self.assertEqual(last(*start, line(1, 2, 1, 0, 20)), [2, 0, 5, 10, 0])

    def test_whole_range(self):
        start = (write(1, 1, 0, 1, 5), write(1, 1, 999999, 1000000, 6))
        self.assertEqual(last(*start, line(1, 2, 1, 0, 1000000)), [3, 0, 5, 1, 0, 999999, 6])

    def test_60_entries(self):
        start = [write(1, 1, 2 * n, 2 * n + 1, n + 1) for n in range(60)]
        runs = [number for n in range(60) for number in (2 * n, n + 1, 2 * n + 1, 0)]
        self.assertEqual(last(*start, line(1, 60, 1, 0, 1000000)), [120] + runs)


class Since(unittest.TestCase):
    def test_nothing_ever_known(self):
        told = ask(since(1, 1, 0), write(1, 2, 0, 10, 5), write(1, 1, 1, 10, 5), since(1, 1, 0))
        self.assertEqual([told[0], told[3]], [[0, 0], [0, 0]])

    def test_the_tick_of_the_entry(self):
        told = ask(write(1, 2, 0, 10, 4), write(1, 1, 0, 10, 5), since(1, 1, 0), write(1, 2, 0, 10, 6), since(1, 1, 0))
        self.assertEqual([told[2], told[4]], [[5, 2], [5, 2]])

    def test_another_entry_of_the_same_value_begins_nothing(self):
        told = ask(write(1, 1, 0, 10, 5), write(1, 1, 0, 10, 5), since(1, 1, 0))
        self.assertEqual(told[-1], [5, 1])

    def test_a_value_known_again_counts_from_the_later_time(self):
        told = ask(write(1, 1, 0, 10, 5), write(1, 1, 0, 10, 6), write(1, 1, 0, 10, 5), since(1, 1, 0))
        self.assertEqual(told[-1], [5, 3])

    def test_0_by_an_entry_is_0_as_without_one(self):
        told = ask(write(1, 1, 0, 10, 0), since(1, 1, 0), write(1, 1, 0, 10, 5), write(1, 1, 0, 10, 0), since(1, 1, 0))
        self.assertEqual([told[1], told[4]], [[0, 0], [0, 3]])

    def test_ticks_are_the_centres_own(self):
        told = ask(write(1, 1, 0, 10, 5), write(2, 2, 0, 10, 5), write(2, 2, 0, 10, 5), sync(1, 2), since(2, 1, 0),
                   since(1, 1, 0))
        self.assertEqual(told[-2:], [[5, 3], [5, 1]])

    def test_an_earlier_entry_that_comes_later_begins_nothing(self):
        told = ask(write(1, 1, 0, 10, 5), write(1, 1, 0, 10, 6), hand(1, 2, 1), hand(1, 2, 0), since(2, 1, 0))
        self.assertEqual(told[-1], [6, 1])


class Changed(unittest.TestCase):
    def test_from_one_tick_to_another_and_back(self):
        start = (write(1, 1, 0, 10, 5), write(1, 1, 4, 15, 7))
        told = ask(*start, changed(1, 1, 2, 1, 0, 20), changed(1, 2, 1, 1, 0, 20), changed(1, 0, 2, 1, 0, 20))
        self.assertEqual(told[2:], [
            [2, 4, 10, 5, 7, 10, 15, 0, 7],
            [2, 4, 10, 7, 5, 10, 15, 7, 0],
            [2, 0, 4, 0, 5, 4, 15, 0, 7]])

    def test_none(self):
        start = (write(1, 1, 0, 10, 5), write(1, 1, 2, 4, 5), write(1, 2, 0, 10, 6))
        told = ask(*start, changed(1, 1, 1, 1, 0, 20), changed(1, 1, 3, 1, 0, 20), changed(1, 0, 3, 1, 10, 20))
        self.assertEqual(told[3:], [[0], [0], [0]])

    def test_each_as_long_as_can_be_with_the_same_two_values(self):
        start = (write(1, 1, 0, 10, 5), write(1, 1, 2, 4, 7), write(1, 1, 4, 6, 7), write(1, 1, 5, 8, 7))
        self.assertEqual(last(*start, changed(1, 1, 4, 1, 0, 20)), [1, 2, 8, 5, 7])

    def test_neighbours_with_another_first_or_second_value_stay_apart(self):
        start = (write(1, 1, 0, 5, 1), write(1, 1, 5, 10, 2), write(1, 1, 0, 10, 3))
        told = ask(*start, changed(1, 2, 3, 1, 0, 10), changed(1, 3, 2, 1, 0, 10))
        self.assertEqual(told[3:], [[2, 0, 5, 1, 3, 5, 10, 2, 3], [2, 0, 5, 3, 1, 5, 10, 3, 2]])

    def test_a_like_stretch_between_keeps_two_apart(self):
        start = (write(1, 1, 0, 3, 5), write(1, 1, 6, 9, 5))
        self.assertEqual(last(*start, changed(1, 0, 2, 1, 0, 9)), [2, 0, 3, 0, 5, 6, 9, 0, 5])

    def test_like_stretches_of_unlike_values_keep_two_apart(self):
        start = (write(1, 1, 3, 4, 8), write(1, 1, 0, 3, 5), write(1, 1, 4, 9, 5))
        self.assertEqual(last(*start, changed(1, 1, 3, 1, 0, 9)), [2, 0, 3, 0, 5, 4, 9, 0, 5])

    def test_cut_to_the_window(self):
        start = (write(1, 1, 0, 10, 5),)
        told = ask(*start, changed(1, 0, 1, 1, 3, 7), changed(1, 0, 1, 1, 9, 12), changed(1, 0, 1, 1, 10, 12))
        self.assertEqual(told[1:], [[1, 3, 7, 0, 5], [1, 9, 10, 0, 5], [0]])

    def test_of_that_key_and_centre(self):
        start = (write(1, 1, 0, 10, 5), write(1, 2, 2, 4, 6))
        told = ask(*start, changed(1, 0, 2, 1, 0, 20), changed(2, 0, 0, 1, 0, 20))
        self.assertEqual(told[2:], [[1, 0, 10, 0, 5], [0]])

    def test_whole_range(self):
        start = (write(1, 1, 0, 1000000, 5),)
        self.assertEqual(last(*start, changed(1, 0, 1, 1, 0, 1000000)), [1, 0, 1000000, 0, 5])


if __name__ == "__main__":
    unittest.main()
