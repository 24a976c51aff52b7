"""fewest and painted."""

import itertools
import random
import unittest

from helper import (HUGE, ask, begin, by_the_words, entries, fewest, hand, howlong, knows, last, line, painted, since,
                    sync, unlike, write)


def line_by_cells(*values):
    """A line that shall be whose cells are ten minutes long each, from minute 0 on."""
    return [number for at, value in enumerate(values) for number in (10 * at, value)]


def told_by_cells(start, *values):
    """fewest over such cells; the strokes as (first cell, cell behind the last one, value)."""
    answer = last(*start, fewest(1, 1, 0, 10 * len(values), *line_by_cells(*values)))
    assert len(answer) == 1 + 3 * answer[0]
    return [(answer[at] // 10, answer[at + 1] // 10, answer[at + 2]) for at in range(1, len(answer), 3)]


def known_by_cells(*values):
    return [write(1, 1, 10 * at, 10 * at + 10, value) for at, value in enumerate(values)]


def least_count(known, shall):
    """How many strokes are needed, by going through everything that so many can paint."""
    values = sorted(set(shall))
    count = len(shall)
    reached = {tuple(known)}
    steps = 0
    while tuple(shall) not in reached:
        steps += 1
        reached = {row[:i] + (value,) * (j - i) + row[j:]
                   for row in reached for i in range(count) for j in range(i + 1, count + 1) for value in values}
    return steps


def line_of_runs(values, b):
    """A line told by runs, of cells of ten minutes."""
    runs = [(10 * at, value) for at, value in enumerate(values) if at == 0 or values[at - 1] != value]
    return [len(runs)] + [number for run in runs for number in run]


class FewestLists(unittest.TestCase):
    def test_not_as_told(self):
        for shall in (
                (), (5,), (5, 1, 7), (5, 1, 7, 2, 9),
                (4, 1), (6, 1), (0, 1), (-5, 1), (HUGE, 1), (-HUGE, 1),
                (5, 1, 5, 2), (5, 1, 4, 2), (5, 1, 8, 2, 8, 3), (5, 1, 8, 2, 7, 3), (5, 1, 6, 2, 8, 3, 7, 4),
                (5, 1, 10, 2), (5, 1, 11, 2), (5, 1, 8, 2, 10, 3), (5, 1, HUGE, 2), (5, 1, -HUGE, 2),
                (5, -1), (5, 1000000001), (5, HUGE), (5, -HUGE), (5, 1, 7, -1), (5, 1, 7, 1000000001),
                (5, 1, 7, HUGE), (5, 1, 7, -HUGE), (5, -1, 7, 1)):
            with self.subTest(shall=shall):
                self.assertEqual(last(fewest(1, 1, 5, 10, *shall)), [-2])

    def test_as_told(self):
        for shall, strokes in (
                ((5, 0), [0]), ((5, 1), [1, 5, 10, 1]), ((5, 1000000000), [1, 5, 10, 1000000000]),
                ((5, 1, 9, 2), [2, 5, 9, 1, 9, 10, 2]), ((5, 0, 9, 1000000000), [1, 9, 10, 1000000000]),
                ((5, 1, 6, 2, 7, 3), [3, 5, 6, 1, 6, 7, 2, 7, 10, 3])):
            with self.subTest(shall=shall):
                self.assertEqual(last(fewest(1, 1, 5, 10, *shall)), strokes)

    def test_neighbours_may_have_one_value(self):
        told = ask(fewest(1, 1, 0, 30, 0, 7, 10, 7, 20, 7), fewest(1, 1, 0, 30, 0, 0, 10, 7, 20, 7),
                   fewest(1, 1, 0, 30, 0, 0, 10, 0, 20, 0))
        self.assertEqual(told, [[1, 0, 30, 7], [1, 10, 30, 7], [0]])

    def test_at_the_ends_of_all_minutes(self):
        told = ask(fewest(1, 1, 0, 1000000, 0, 1, 999999, 2), fewest(3, 20, 999999, 1000000, 999999, 3))
        self.assertEqual(told, [[2, 0, 999999, 1, 999999, 1000000, 2], [1, 999999, 1000000, 3]])

    def test_the_calls_behind_a_further_row_are_read(self):
        told = ask(fewest(1, 1, 0, 10), fewest(1, 1, 0, 10, 0), fewest(9, 1, 0, 10, 0, 5), write(1, 1, 0, 10, 5),
                   fewest(1, 1, 0, 10, 0, 6), painted(0, 1, 0, 10, 1, 2, 3), painted(1, 1, 0, 10, 1), knows(1, 1, 0))
        self.assertEqual(told, [[-2], [-2], [-1], [0, 1, 1], [1, 0, 10, 6], [-1], [-2], [5, 1, 1]])


class FewestCells(unittest.TestCase):
    def test_14_by_the_line_are_answered_and_15_refused(self):
        for count, refused in ((13, False), (14, False), (15, True), (500, True)):
            with self.subTest(count=count):
                answer = last(fewest(1, 1, 0, 10 * count, *line_by_cells(*range(1, count + 1))))
                self.assertEqual(answer == [-11], refused)
                if not refused:
                    self.assertEqual(answer[0], count)

    def test_cells_of_one_value_count_too(self):
        told = ask(fewest(1, 1, 0, 140, *line_by_cells(*[0] * 14)), fewest(1, 1, 0, 150, *line_by_cells(*[0] * 15)))
        self.assertEqual(told, [[0], [-11]])

    def test_cut_at_a_and_b_of_entries_within_the_window(self):
        seven = [write(1, 1, 10 * n + 1, 10 * n + 5, 1) for n in range(7)]
        told = ask(
            *seven,
            # 1 and the 14 ends: 15; from 1 on the first is no further cut.
            fewest(1, 1, 0, 100, 0, 0), fewest(1, 1, 1, 100, 1, 0),
            # The last one ends at 65: up to 65 it cuts nothing off, up to 66 it does.
            fewest(1, 1, 0, 65, 0, 0), fewest(1, 1, 0, 66, 0, 0),
            # A minute of the line that is an entry's cuts once; another one cuts anew.
            fewest(1, 1, 1, 100, 1, 0, 5, 0, 61, 1), fewest(1, 1, 1, 100, 1, 0, 6, 0))
        self.assertEqual([answer == [-11] for answer in told[7:]], [True, False, False, True, False, True])

    def test_hidden_entries_and_those_of_one_value_cut_too(self):
        hidden_ones = [write(1, 1, 10 * n + 1, 10 * n + 5, 1) for n in range(7)] + [write(1, 1, 0, 1000, 1)]
        told = ask(*hidden_ones, fewest(1, 1, 0, 100, 0, 1), fewest(1, 1, 1, 100, 1, 1))
        self.assertEqual(told[8:], [[-11], [0]])

    def test_entries_of_other_keys_and_centres_and_outside_cut_nothing(self):
        others = [write(1, 2, 10 * n + 1, 10 * n + 5, 1) for n in range(7)]
        others += [write(2, 1, 10 * n + 1, 10 * n + 5, 1) for n in range(7)]
        others += [write(1, 1, 100 + 10 * n, 100 + 10 * n + 5, 1) for n in range(9)]
        told = ask(*others, fewest(1, 1, 0, 100, 0, 0), fewest(2, 1, 0, 100, 0, 0), fewest(1, 1, 0, 200, 0, 0))
        self.assertEqual(told[-3:], [[0], [-11], [-11]])

    def test_an_entry_around_the_window_cuts_nothing(self):
        start = (write(1, 1, 0, 1000, 5),)
        told = ask(*start, fewest(1, 1, 10, 20, 10, 5), fewest(1, 1, 10, 20, 10, 6))
        self.assertEqual(told[1:], [[0], [1, 10, 20, 6]])

    def test_entries_got_from_others_count_as_its_own(self):
        start = (write(2, 1, 5, 15, 4), sync(2, 1))
        told = ask(*start, fewest(1, 1, 0, 20, 0, 4), fewest(1, 1, 0, 20, 0, 0, 5, 4, 15, 0))
        self.assertEqual(told[2:], [[1, 0, 20, 4], [0]])


class FewestStrokes(unittest.TestCase):
    def test_what_is_known_already(self):
        start = known_by_cells(3, 0, 4, 4, 5)
        self.assertEqual(told_by_cells(start, 3, 0, 4, 4, 5), [])
        self.assertEqual(last(*start, fewest(1, 1, 0, 50, 0, 3, 10, 0, 20, 4, 40, 5)), [0])
        self.assertEqual(last(*start, fewest(1, 1, 25, 35, 25, 4)), [0])

    def test_0_shall_be_where_something_is_known(self):
        self.assertEqual(told_by_cells(known_by_cells(3, 4, 5), 0, 0, 0), [(0, 3, 0)])

    def test_only_what_is_not_so_yet(self):
        self.assertEqual(told_by_cells(known_by_cells(1, 2, 3, 4), 1, 9, 3, 4), [(1, 2, 9)])
        self.assertEqual(told_by_cells(known_by_cells(1, 2, 3, 4), 8, 2, 3, 9), [(0, 1, 8), (3, 4, 9)])

    def test_painting_over_needs_fewer_strokes_than_runs(self):
        self.assertEqual(told_by_cells([], 1, 2, 1), [(0, 3, 1), (1, 2, 2)])
        self.assertEqual(told_by_cells([], 1, 2, 1, 3, 1), [(0, 5, 1), (1, 2, 2), (3, 4, 3)])
        self.assertEqual(told_by_cells([], 1, 2, 3, 2, 1), [(0, 5, 1), (1, 4, 2), (2, 3, 3)])

    def test_painting_over_what_was_right_already(self):
        # Three strokes would do it without touching the second and the fourth cell: two over them do as well.
        self.assertEqual(told_by_cells(known_by_cells(0, 7, 0, 7, 0), 1, 1, 1, 7, 1), [(0, 5, 1), (3, 4, 7)])

    def test_one_over_many_is_fewer(self):
        self.assertEqual(told_by_cells(known_by_cells(1, 2, 3, 4, 5), 6, 6, 6, 6, 6), [(0, 5, 6)])

    def test_of_equally_few_for_one_cell_alone_is_found_first(self):
        # As few: (0, 3, 1), (1, 2, 2), (3, 4, 2).
        self.assertEqual(told_by_cells([], 1, 2, 1, 2), [(0, 1, 1), (1, 4, 2), (2, 3, 1)])

    def test_of_equally_few_what_stays_is_found_first(self):
        # As few: (0, 2, 1), over the cell that is so already.
        self.assertEqual(told_by_cells(known_by_cells(0, 1), 1, 1), [(0, 1, 1)])

    def test_of_equally_few_the_smaller_i_is_found_first(self):
        # As few: (0, 1, 1), (2, 3, 1), with the cell between them left as it is.
        self.assertEqual(told_by_cells([], 1, 0, 1), [(0, 3, 1), (1, 2, 0)])

    def test_the_stroke_that_begins_earlier_is_told_first(self):
        self.assertEqual(last(fewest(1, 1, 0, 40, 0, 1, 10, 2, 20, 1, 30, 3)), [3, 0, 30, 1, 10, 20, 2, 30, 40, 3])

    def test_minutes_of_uneven_cells(self):
        start = (write(1, 1, 3, 17, 4), write(1, 1, 8, 9, 5))
        told = ask(*start, fewest(1, 1, 1, 20, 1, 4), fewest(1, 1, 1, 20, 1, 0), fewest(1, 1, 1, 20, 1, 0, 3, 4, 17, 0),
                   fewest(1, 1, 5, 12, 5, 4, 6, 9))
        # As few would be 3 to 17 and 8 to 9: what begins at a smaller cell is found first.
        self.assertEqual(told[2:], [[1, 1, 20, 4], [1, 1, 17, 0], [1, 3, 9, 4], [1, 6, 12, 9]])

    def test_by_the_words_and_none_fewer_for_all_short_lines(self):
        for count in (1, 2, 3, 4):
            for known in itertools.product(range(3), repeat=count):
                start = known_by_cells(*known)
                for shall in itertools.product(range(3), repeat=count):
                    told = told_by_cells(start, *shall)
                    self.assertEqual(told, by_the_words(known, shall), (known, shall))
                    if count < 4:
                        self.assertEqual(len(told), least_count(known, shall), (known, shall))

    def test_by_the_words_for_longer_lines(self):
        chance = random.Random(5)
        for turn in range(400):
            count = chance.randint(5, 14)
            values = range(chance.randint(2, 5))
            known = chance.choices(values, k=count)
            shall = chance.choices(values, k=count)
            told = told_by_cells(known_by_cells(*known), *shall)
            self.assertEqual(told, by_the_words(known, shall), (known, shall))

    def test_none_fewer_for_longer_lines(self):
        chance = random.Random(6)
        for turn in range(12):
            known = chance.choices(range(3), k=6)
            shall = chance.choices(range(3), k=6)
            told = told_by_cells(known_by_cells(*known), *shall)
            self.assertEqual(len(told), least_count(known, shall), (known, shall))

    def test_painted_with_these_strokes_is_the_line_that_shall_be(self):
        chance = random.Random(7)
        for turn in range(200):
            count = chance.randint(1, 14)
            known = chance.choices(range(4), k=count)
            shall = chance.choices(range(4), k=count)
            start = known_by_cells(*known)
            strokes = last(*start, fewest(1, 1, 0, 10 * count, *line_by_cells(*shall)))[1:]
            told = last(*start, painted(1, 1, 0, 10 * count, *strokes))
            self.assertEqual(told, line_of_runs(shall, 10 * count), (known, shall))

    def test_written_in_their_order_they_make_it_so(self):
        start = known_by_cells(0, 7, 0, 7, 0)
        strokes = told_by_cells(start, 1, 1, 2, 7, 1)
        writes = [write(1, 1, 10 * first, 10 * behind, value) for first, behind, value in strokes]
        told = ask(*start, *writes, line(1, 5 + len(writes), 1, 0, 50))
        self.assertEqual(told[-1], [4, 0, 1, 20, 2, 30, 7, 40, 1])

    def test_lists_of_the_same_cells_at_60_entries(self):
        start = [write(1, 1, 10 * (n % 14), 10 * (n % 14) + 10, n % 5) for n in range(60)]
        known = [max(n for n in range(60) if n % 14 == cell) % 5 for cell in range(14)]
        shall = [1, 2, 1, 3, 1, 2, 4, 2, 1, 0, 1, 3, 3, 1]
        self.assertEqual(told_by_cells(start, *shall), by_the_words(known, shall))


class Painted(unittest.TestCase):
    START = (write(1, 1, 0, 10, 5), write(1, 1, 10, 20, 6))

    def test_without_strokes_the_line_as_it_is_now(self):
        told = ask(painted(1, 1, 0, 30), *self.START, painted(1, 1, 0, 30), painted(1, 1, 5, 12), painted(1, 2, 5, 12),
                   painted(2, 1, 0, 30))
        self.assertEqual([told[0]] + told[3:],
                         [[1, 0, 0], [3, 0, 5, 10, 6, 20, 0], [2, 5, 5, 10, 6], [1, 5, 0], [1, 0, 0]])

    def test_strokes_over_what_is_known(self):
        told = ask(*self.START, painted(1, 1, 0, 30, 5, 15, 7), painted(1, 1, 0, 30, 0, 30, 7),
                   painted(1, 1, 0, 30, 5, 15, 0), painted(1, 1, 0, 30, 10, 20, 5))
        self.assertEqual(told[2:], [[4, 0, 5, 5, 7, 15, 6, 20, 0], [1, 0, 7], [4, 0, 5, 5, 0, 15, 6, 20, 0],
                                    [2, 0, 5, 20, 0]])

    def test_strokes_over_one_another_the_later_counts(self):
        told = ask(painted(1, 1, 0, 30, 5, 25, 1, 10, 20, 2, 12, 14, 1), painted(1, 1, 0, 30, 10, 20, 2, 5, 25, 1),
                   painted(1, 1, 0, 30, 5, 25, 1, 5, 25, 2, 5, 25, 0))
        self.assertEqual(told, [[7, 0, 0, 5, 1, 10, 2, 12, 1, 14, 2, 20, 1, 25, 0], [3, 0, 0, 5, 1, 25, 0], [1, 0, 0]])

    def test_over_later_entries_of_centres_with_greater_numbers(self):
        start = (write(3, 1, 0, 10, 5), write(3, 1, 0, 10, 6), write(1, 1, 0, 10, 4), sync(3, 1))
        self.assertEqual(last(*start, painted(1, 1, 0, 10, 2, 4, 9)), [3, 0, 6, 2, 9, 4, 6])

    def test_in_an_inner_window(self):
        told = ask(*self.START, painted(1, 1, 8, 12, 8, 12, 1), painted(1, 1, 8, 12, 9, 10, 1),
                   painted(1, 1, 8, 12, 11, 12, 1))
        self.assertEqual(told[2:], [[1, 8, 1], [3, 8, 5, 9, 1, 10, 6], [3, 8, 5, 10, 6, 11, 1]])

    def test_not_as_told(self):
        for strokes in (
                (5,), (5, 9), (5, 9, 1, 6), (5, 9, 1, 6, 8),
                (4, 9, 1), (5, 11, 1), (4, 11, 1), (0, 3, 1), (10, 12, 1), (10, 10, 1), (11, 12, 1),
                (7, 7, 1), (8, 7, 1), (5, 9, -1), (5, 9, 1000000001),
                (-HUGE, 9, 1), (HUGE, 9, 1), (5, HUGE, 1), (5, -HUGE, 1), (5, 9, HUGE), (5, 9, -HUGE),
                (5, 9, 1, 4, 9, 1), (5, 9, 1, 5, 9, -1), (4, 9, 1, 5, 9, 1), (5, 9, 1, 9, 11, 1), (5, 9, 1, 9, 9, 1)):
            with self.subTest(strokes=strokes):
                self.assertEqual(last(painted(1, 1, 5, 10, *strokes)), [-2])

    def test_as_told_at_the_edges(self):
        told = ask(painted(1, 1, 5, 10, 5, 10, 0), painted(1, 1, 5, 10, 5, 10, 1000000000),
                   painted(1, 1, 5, 10, 9, 10, 1), painted(1, 1, 5, 10, 5, 6, 1),
                   painted(1, 1, 0, 1000000, 0, 1000000, 1, 999999, 1000000, 2, 0, 1, 3))
        self.assertEqual(told, [[1, 5, 0], [1, 5, 1000000000], [2, 5, 0, 9, 1], [2, 5, 1, 6, 0],
                                [3, 0, 3, 1, 1, 999999, 2]])

    def test_changes_nothing(self):
        look = (entries(1), entries(2), line(1, 2, 1, 0, 30), line(1, 3, 1, 0, 30), knows(1, 1, 5), since(1, 1, 5),
                howlong(1, 2, 1, 0, 30, 7), unlike(1, 2), hand(1, 2, 2), write(1, 1, 0, 1, 9))
        seen = ask(*self.START, *look)[2:]
        told = ask(*self.START, painted(1, 1, 0, 30, 5, 15, 7, 6, 9, 8), fewest(1, 1, 0, 30, 0, 7, 5, 8), *look)
        self.assertEqual(told[4:], seen)
        self.assertEqual(seen[0], [2, 2, 1, 1, 1, 0, 10, 5, 2, 1, 1, 10, 20, 6])
        self.assertEqual(seen[-1], [0, 3, 3])

    def test_is_not_refused_at_60_entries(self):
        start = [write(1, 1, 0, 10, 5) for n in range(60)]
        told = ask(*start, painted(1, 1, 0, 10, 2, 4, 6), fewest(1, 1, 0, 10, 0, 6), write(1, 1, 0, 10, 6))
        self.assertEqual(told[60:], [[3, 0, 5, 2, 6, 4, 5], [1, 0, 10, 6], [-6]])

    def test_333_strokes(self):
        strokes = [number for n in range(333) for number in (n, 1000 - n, n % 7)]
        values = [min(at, 999 - at, 332) % 7 for at in range(1000)]
        runs = [(at, value) for at, value in enumerate(values) if at == 0 or values[at - 1] != value]
        self.assertEqual(last(painted(1, 1, 0, 1000, *strokes)),
                         [len(runs)] + [number for run in runs for number in run])

    def test_behind_begin_nothing_is_known(self):
        self.assertEqual(last(*self.START, begin(), painted(1, 1, 0, 30, 1, 2, 3)), [3, 0, 0, 1, 3, 2, 0])


if __name__ == "__main__":
    unittest.main()
