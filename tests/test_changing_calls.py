"""begin, write, hand, sync, decide."""

import unittest

from helper import ask, begin, decide, hand, knew, knows, last, line, since, sync, write


class Begin(unittest.TestCase):
    def test_answers_0(self):
        self.assertEqual(ask(begin()), [[0]])

    def test_all_is_as_before_the_first_call(self):
        told = ask(
            write(1, 1, 0, 10, 5), sync(1, 2), sync(1, 3), decide(1, 7, 1, 0),
            begin(),
            knows(1, 1, 0), knows(2, 1, 0), knows(3, 1, 0), hand(1, 2, 0), knew(1, 1, 1, 0),
            decide(1, 7, 1, 0), write(1, 1, 0, 10, 6), write(2, 1, 0, 10, 6), write(3, 1, 0, 10, 6))
        self.assertEqual(told[4:], [
            [0],
            [0, 0, 0], [0, 0, 0], [0, 0, 0], [-10], [-5],
            [0, 0], [0, 1, 1], [0, 1, 1], [0, 1, 1]])

    def test_before_the_first_call_nothing_is_there(self):
        told = ask(knows(1, 1, 0), knows(2, 20, 999999), since(3, 1, 0), line(1, 0, 1, 0, 1000000),
                   hand(1, 2, 0), sync(1, 2), decide(3, 1, 1, 0))
        self.assertEqual(told, [[0, 0, 0], [0, 0, 0], [0, 0], [1, 0, 0], [-10], [0, 0], [0, 0]])


class Write(unittest.TestCase):
    def test_clock_and_tick_rise(self):
        told = ask(write(1, 1, 0, 10, 5), write(1, 2, 0, 10, 5), write(2, 1, 0, 10, 5), write(1, 1, 0, 10, 5))
        self.assertEqual(told, [[0, 1, 1], [0, 2, 2], [0, 1, 1], [0, 3, 3]])

    def test_clock_goes_on_from_a_greater_one_that_was_handed_on(self):
        told = ask(write(1, 1, 0, 1, 5), write(1, 1, 0, 1, 6), write(1, 1, 0, 1, 7), hand(1, 2, 2),
                   write(2, 1, 0, 1, 8))
        self.assertEqual(told[-1], [0, 4, 2])

    def test_holds_at_a_to_b_without_b(self):
        told = ask(write(1, 1, 3, 5, 9), knows(1, 1, 2), knows(1, 1, 3), knows(1, 1, 4), knows(1, 1, 5))
        self.assertEqual(told[1:], [[0, 0, 0], [9, 1, 1], [9, 1, 1], [0, 0, 0]])

    def test_other_centres_and_keys_know_nothing_of_it(self):
        told = ask(write(1, 1, 0, 10, 9), knows(2, 1, 0), knows(3, 1, 0), knows(1, 2, 0))
        self.assertEqual(told[1:], [[0, 0, 0]] * 3)

    def test_60_by_all_three_together_then_refused(self):
        calls = [write(1 + n % 3, 1, 0, 10, n) for n in range(60)]
        told = ask(*calls, write(1, 1, 0, 10, 1), write(2, 1, 0, 10, 1), write(3, 1, 0, 10, 1))
        self.assertEqual(told[57:60], [[0, 20, 20]] * 3)
        self.assertEqual(told[60:], [[-6]] * 3)

    def test_handed_on_entries_and_decisions_do_not_count(self):
        calls = [write(1, 1, 0, 10, 1) for n in range(59)] + [sync(1, 2), sync(1, 3)]
        calls += [decide(1, j, 1, 0) for j in range(1, 61)]
        told = ask(*calls, write(2, 1, 0, 10, 1), write(2, 1, 0, 10, 1))
        self.assertEqual(told[-2:], [[0, 60, 60], [-6]])

    def test_refused_writes_do_not_count(self):
        calls = [write(1, 1, 0, 10, 1) for n in range(59)] + [write(1, 1, 5, 5, 1)] * 5
        told = ask(*calls, write(1, 1, 0, 10, 1), write(1, 1, 0, 10, 1))
        self.assertEqual(told[-2:], [[0, 60, 60], [-6]])

    def test_a_refused_write_changes_nothing(self):
        calls = [write(1, 1, 0, 10, 4) for n in range(60)]
        told = ask(*calls, write(1, 1, 0, 10, 8), write(2, 1, 0, 10, 8),
                   knows(1, 1, 0), knew(1, 60, 1, 0), knew(1, 61, 1, 0), knows(2, 1, 0), hand(2, 3, 0))
        self.assertEqual(told[-5:], [[4, 60, 1], [4, 60, 1], [-5], [0, 0, 0], [-10]])

    def test_counted_anew_from_begin_on(self):
        calls = [write(1, 1, 0, 10, 1) for n in range(60)]
        told = ask(*calls, begin(), *calls, write(1, 1, 0, 10, 1))
        self.assertEqual(told[120], [0, 60, 60])
        self.assertEqual(told[121], [-6])


class Hand(unittest.TestCase):
    def test_the_entry_with_just_i_before_it(self):
        start = (write(1, 1, 0, 10, 5), write(1, 2, 0, 10, 6), write(1, 3, 0, 10, 7))
        told = ask(*start, hand(1, 2, 1), knows(2, 1, 0), knows(2, 2, 0), knows(2, 3, 0))
        self.assertEqual(told[3:], [[0, 1], [0, 0, 0], [6, 2, 1], [0, 0, 0]])

    def test_twice_is_had_once(self):
        told = ask(write(1, 1, 0, 10, 5), hand(1, 2, 0), hand(1, 2, 0), knew(2, 1, 1, 0), knew(2, 2, 1, 0))
        self.assertEqual(told[1:], [[0, 1], [0, 0], [5, 1, 1], [-5]])

    def test_back_to_where_it_was_written(self):
        told = ask(write(1, 1, 0, 10, 5), hand(1, 2, 0), hand(2, 1, 0), knew(1, 2, 1, 0))
        self.assertEqual(told[2:], [[0, 0], [-5]])

    def test_on_over_a_third_centre_it_keeps_its_stamp(self):
        told = ask(write(1, 1, 0, 10, 5), hand(1, 2, 0), hand(2, 3, 0), hand(1, 3, 0), knows(3, 1, 0))
        self.assertEqual(told[2:], [[0, 1], [0, 0], [5, 1, 1]])

    def test_it_is_the_last_entry(self):
        told = ask(write(1, 1, 0, 10, 5), write(2, 1, 0, 10, 6), write(2, 1, 0, 10, 7), hand(1, 2, 0),
                   hand(2, 3, 2), knows(3, 1, 0))
        self.assertEqual(told[-1], [5, 1, 1])

    def test_same_clock_other_source_is_another_entry(self):
        told = ask(write(1, 1, 0, 10, 5), write(2, 1, 0, 10, 6), hand(1, 2, 0))
        self.assertEqual(told[-1], [0, 1])

    def test_same_source_other_clock_is_another_entry(self):
        told = ask(write(1, 1, 0, 10, 5), write(1, 1, 0, 10, 5), hand(1, 2, 0), hand(1, 2, 1))
        self.assertEqual(told[-2:], [[0, 1], [0, 1]])

    def test_clock_becomes_a_greater_one(self):
        told = ask(write(1, 1, 0, 1, 5), write(1, 1, 0, 1, 5), hand(1, 2, 1), write(2, 1, 0, 1, 5))
        self.assertEqual(told[-1], [0, 3, 2])

    def test_clock_stays_if_the_entrys_is_smaller(self):
        told = ask(write(1, 1, 0, 1, 5), write(2, 1, 0, 1, 5), write(2, 1, 0, 1, 5), hand(1, 2, 0),
                   write(2, 1, 0, 1, 5))
        self.assertEqual(told[-1], [0, 3, 4])

    def test_clock_stays_if_the_entrys_is_the_same(self):
        told = ask(write(1, 1, 0, 1, 5), write(2, 1, 0, 1, 5), hand(1, 2, 0), write(2, 1, 0, 1, 5))
        self.assertEqual(told[-1], [0, 2, 3])

    def test_givers_clock_and_entries_stay(self):
        told = ask(write(1, 1, 0, 1, 5), write(2, 1, 0, 1, 6), write(2, 1, 0, 1, 7), hand(1, 2, 0),
                   write(1, 1, 0, 1, 8))
        self.assertEqual(told[-1], [0, 2, 2])

    def test_none_with_i_before_it(self):
        told = ask(write(1, 1, 0, 1, 5), hand(1, 2, 1), hand(2, 1, 0), hand(1, 2, 1000000000), hand(1, 2, 0))
        self.assertEqual(told[1:], [[-10], [-10], [-10], [0, 1]])

    def test_to_itself(self):
        told = ask(write(1, 1, 0, 1, 5), hand(1, 1, 0), hand(2, 2, 0), hand(3, 3, 9))
        self.assertEqual(told[1:], [[-4], [-4], [-4]])

    def test_is_not_refused_at_60_entries(self):
        calls = [write(1, 1, 0, 10, 1) for n in range(60)]
        self.assertEqual(last(*calls, hand(1, 2, 59)), [0, 1])


class Sync(unittest.TestCase):
    def test_how_many_were_new(self):
        told = ask(write(1, 1, 0, 1, 5), write(1, 1, 0, 1, 6), write(1, 1, 0, 1, 7), hand(1, 2, 1),
                   sync(1, 2), sync(1, 2), sync(2, 1))
        self.assertEqual(told[4:], [[0, 2], [0, 0], [0, 0]])

    def test_earlier_stamps_first_whatever_the_order_c_got_them(self):
        # Centre 3 gets them as (2, 2), (1, 1), (1, 2), (2, 1).
        start = (write(1, 1, 0, 1, 11), write(1, 2, 0, 1, 12), write(2, 3, 0, 1, 21), write(2, 4, 0, 1, 22),
                 hand(2, 3, 1), hand(1, 3, 0), hand(2, 3, 0), hand(1, 3, 1))
        told = ask(*start,
                   # Centre 1 has (1, 1) and (2, 1) already, and gets (1, 2), then (2, 2).
                   sync(3, 1), knew(1, 3, 3, 0), knew(1, 3, 4, 0), knew(1, 4, 4, 0),
                   # Centre 2 has (1, 2) and (2, 2) already, and gets (1, 1), then (2, 1).
                   sync(3, 2), knew(2, 3, 1, 0), knew(2, 3, 2, 0), knew(2, 4, 2, 0))
        self.assertEqual(told[8:], [
            [0, 2], [21, 1, 2], [0, 0, 0], [22, 2, 2],
            [0, 2], [11, 1, 1], [0, 0, 0], [12, 2, 1]])

    def test_same_clock_the_smaller_source_first(self):
        # Centre 2 has (1, 2) before (1, 3), centre 3 the other way round.
        told = ask(write(2, 2, 0, 1, 22), write(3, 3, 0, 1, 33), hand(3, 2, 0), sync(2, 1),
                   knew(1, 1, 2, 0), knew(1, 1, 3, 0),
                   begin(),
                   write(2, 2, 0, 1, 22), write(3, 3, 0, 1, 33), hand(2, 3, 0), sync(3, 1),
                   knew(1, 1, 2, 0), knew(1, 1, 3, 0))
        self.assertEqual(told[3:6], [[0, 2], [22, 1, 2], [0, 0, 0]])
        self.assertEqual(told[10:], [[0, 2], [22, 1, 2], [0, 0, 0]])

    def test_the_givers_own_order_stays(self):
        told = ask(write(1, 1, 0, 1, 5), write(1, 1, 0, 1, 6), hand(1, 2, 1), hand(1, 2, 0), sync(2, 3),
                   knew(2, 1, 1, 0), knew(3, 1, 1, 0))
        self.assertEqual(told[-2:], [[6, 2, 1], [5, 1, 1]])

    def test_clock_becomes_the_greatest(self):
        told = ask(write(1, 1, 0, 1, 5), write(1, 1, 0, 1, 6), sync(1, 2), write(2, 1, 0, 1, 7), sync(1, 2),
                   write(2, 1, 0, 1, 8), write(1, 1, 0, 1, 9))
        self.assertEqual(told[3:], [[0, 3, 3], [0, 0], [0, 4, 4], [0, 3, 3]])

    def test_from_one_without_entries(self):
        told = ask(write(1, 1, 0, 1, 5), sync(2, 1), write(1, 1, 0, 1, 6))
        self.assertEqual(told[1:], [[0, 0], [0, 2, 2]])

    def test_to_itself(self):
        self.assertEqual(ask(sync(1, 1), sync(2, 2), sync(3, 3)), [[-4]] * 3)

    def test_centres_with_the_same_entries_know_the_same(self):
        start = (write(1, 1, 0, 6, 5), write(2, 1, 3, 9, 6), write(3, 1, 4, 5, 7), write(2, 1, 0, 2, 8))
        told = ask(*start, sync(2, 1), sync(3, 1), sync(1, 2), sync(2, 3),
                   line(1, 4, 1, 0, 10), line(2, 4, 1, 0, 10), line(3, 4, 1, 0, 10))
        self.assertEqual(told[-3:], [[6, 0, 8, 2, 5, 3, 6, 4, 7, 5, 6, 9, 0]] * 3)


class Decide(unittest.TestCase):
    def test_answers_what_is_known_now(self):
        told = ask(write(1, 1, 0, 10, 5), decide(1, 1, 1, 9), decide(1, 2, 1, 10), decide(2, 3, 1, 9),
                   decide(1, 4, 2, 9), write(1, 1, 0, 10, 6), decide(1, 5, 1, 9))
        self.assertEqual(told[1:], [[0, 5], [0, 0], [0, 0], [0, 0], [0, 2, 2], [0, 6]])

    def test_a_number_once_whoever_decided(self):
        told = ask(decide(1, 7, 1, 0), decide(1, 7, 1, 0), decide(2, 7, 2, 5), decide(2, 8, 1, 0))
        self.assertEqual(told, [[0, 0], [-3], [-3], [0, 0]])

    def test_changes_no_clock_and_no_tick(self):
        told = ask(decide(1, 7, 1, 0), write(1, 1, 0, 1, 5))
        self.assertEqual(told[1], [0, 1, 1])

    def test_60_then_refused(self):
        calls = [decide(1 + j % 3, j, 1, 0) for j in range(1, 61)]
        told = ask(*calls, decide(1, 61, 1, 0), decide(2, 1000000000, 1, 0))
        self.assertEqual(told[59:], [[0, 0], [-6], [-6]])

    def test_entries_do_not_count(self):
        calls = [write(1, 1, 0, 10, 5) for n in range(60)] + [decide(1, j, 1, 0) for j in range(1, 60)]
        told = ask(*calls, decide(1, 60, 1, 0), decide(1, 61, 1, 0))
        self.assertEqual(told[-2:], [[0, 5], [-6]])

    def test_refused_decisions_do_not_count(self):
        calls = [decide(1, j, 1, 0) for j in range(1, 60)] + [decide(1, 1, 1, 0), decide(1, 61, 1, -1)]
        told = ask(*calls, decide(1, 61, 1, 0), decide(1, 62, 1, 0), decide(1, 61, 1, 0))
        self.assertEqual(told[-5:], [[-3], [-1], [0, 0], [-6], [-3]])

    def test_counted_anew_from_begin_on(self):
        calls = [decide(1, j, 1, 0) for j in range(1, 61)]
        told = ask(*calls, begin(), *calls, decide(1, 61, 1, 0))
        self.assertEqual(told[61:], [[0, 0]] * 60 + [[-6]])


if __name__ == "__main__":
    unittest.main()
