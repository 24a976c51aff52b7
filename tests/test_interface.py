"""What is handed in and given back, and what is kept: nothing."""

import contextlib
import io
import unittest
from unittest import mock

from helper import (ask, asof, begin, changed, decide, differ, entries, fewest, first, flat, hand, hidden, howlong,
                    knew, knows, last, line, painted, parted, since, sync, unlike, write, wrong)
from knownwhendesk.centres import answers

EACH = (begin(), write(1, 1, 0, 10, 5), write(2, 1, 5, 15, 6), hand(1, 2, 0), sync(2, 1), knows(1, 1, 5),
        knew(1, 1, 1, 5), line(1, 2, 1, 0, 20), since(1, 1, 5), changed(1, 1, 2, 1, 0, 20), decide(1, 1, 1, 5),
        sync(1, 1), write(4, 1, 0, 1, 1),
        write(1, 1, 0, 10, 7), wrong(1), unlike(1, 2), entries(1), fewest(1, 1, 0, 20, 0, 8, 5, 7, 10, 8),
        painted(1, 1, 0, 20, 2, 4, 9), howlong(1, 3, 1, 0, 20, 6), differ(1, 2, 1, 0, 20), hidden(1), first(1, 1, 0, 7),
        asof(1, 1, 1, 0), fewest(1, 1, 0, 20), painted(1, 1, 0, 20, 5))

TOLD = [1, 0,
        3, 0, 1, 1,
        3, 0, 1, 1,
        2, 0, 1,
        2, 0, 1,
        3, 6, 1, 2,
        3, 5, 1, 1,
        7, 3, 0, 5, 5, 6, 15, 0,
        2, 6, 2,
        9, 2, 5, 10, 5, 6, 10, 15, 0, 6,
        2, 0, 6,
        1, -4,
        1, -1,
        3, 0, 2, 3,
        4, 1, 1, 6, 7,
        2, 1, 0,
        20, 2, 3, 1, 1, 1, 0, 10, 5, 1, 2, 1, 5, 15, 6, 2, 1, 1, 0, 10, 7,
        7, 2, 0, 20, 8, 5, 10, 7,
        11, 5, 0, 7, 2, 9, 4, 7, 10, 6, 15, 0,
        1, 5,
        9, 2, 0, 5, 7, 5, 5, 10, 7, 6,
        3, 1, 1, 1,
        1, 3,
        3, 5, 1, 1,
        1, -2,
        1, -2]


class Interface(unittest.TestCase):
    def test_each_answer_behind_its_count(self):
        self.assertEqual(answers(flat(EACH)), TOLD)

    def test_a_list_of_whole_numbers(self):
        given = answers(flat(EACH))
        self.assertIs(type(given), list)
        self.assertEqual({type(number) for number in given}, {int})

    def test_the_list_handed_in_stays(self):
        handed = flat(EACH)
        answers(handed)
        self.assertEqual(handed, flat(EACH))

    def test_the_list_is_only_read(self):
        class Guarded(list):
            def refuse(self, *told):
                raise AssertionError("what is handed in is changed")

            append = extend = insert = pop = remove = clear = sort = reverse = refuse
            __setitem__ = __delitem__ = __iadd__ = __imul__ = refuse

        self.assertEqual(answers(Guarded(flat(EACH))), TOLD)

    def test_nothing_is_kept_from_one_time_to_the_next(self):
        self.assertEqual(answers(flat(EACH[1:])), TOLD[2:])
        self.assertEqual(answers(flat(EACH[1:])), TOLD[2:])
        self.assertEqual(answers(knows(1, 1, 5)), [3, 0, 0, 0])
        self.assertEqual(answers(decide(1, 1, 1, 5)), [2, 0, 0])

    def test_what_is_given_back_is_the_askers_own(self):
        given = answers(flat(EACH))
        given.clear()
        self.assertEqual(answers(flat(EACH)), TOLD)

    def test_nothing_is_printed(self):
        out = io.StringIO()
        with contextlib.redirect_stdout(out), contextlib.redirect_stderr(out):
            answers(flat(EACH))
        self.assertEqual(out.getvalue(), "")

    def test_nothing_is_read_or_imported(self):
        calls = flat(EACH)
        stopped = AssertionError("not asked for")
        with contextlib.ExitStack() as patched:
            for name in ("open", "input", "print", "__import__"):
                patched.enter_context(mock.patch(f"builtins.{name}", side_effect=stopped))
            given = answers(calls)
        self.assertEqual(given, TOLD)

    def test_the_same_list_twice_is_answered_the_same(self):
        handed = flat(EACH)
        self.assertEqual(answers(handed), answers(handed))

    def test_each_of_the_twenty_calls_alone(self):
        alone = ((begin(), [0]), (write(1, 1, 0, 1, 1), [0, 1, 1]), (hand(1, 2, 0), [-10]), (sync(1, 2), [0, 0]),
                 (knows(1, 1, 0), [0, 0, 0]), (knew(1, 0, 1, 0), [0, 0, 0]), (line(1, 0, 1, 0, 9), [1, 0, 0]),
                 (since(1, 1, 0), [0, 0]), (changed(1, 0, 0, 1, 0, 9), [0]), (decide(1, 1, 1, 0), [0, 0]),
                 (wrong(1), [0]), (unlike(1, 2), [0, 0]), (entries(1), [0, 0]), (fewest(1, 1, 0, 9, 0, 0), [0]),
                 (painted(1, 1, 0, 9), [1, 0, 0]), (howlong(1, 0, 1, 0, 9, 0), [9]), (differ(1, 2, 1, 0, 9), [0]),
                 (hidden(1), [0]), (first(1, 1, 0, 0), [0]), (asof(1, 0, 1, 0), [0, 0, 0]))
        for place, (call, answer) in enumerate(alone):
            self.assertEqual(call[0], place)
            self.assertEqual(answers(call), [len(answer)] + answer)


class Limits(unittest.TestCase):
    FULL = [write(1 + n % 3, 1, n, 200 - n, n % 5) for n in range(60)]
    FULL += [sync(2, 1), sync(3, 1), sync(1, 2), sync(1, 3)]

    def test_300_calls(self):
        start = [write(1 + n % 3, 1, n, 100 - n, n + 1) for n in range(48)] + [sync(2, 1), sync(3, 1)]
        questions = [changed(1, n % 49, 48 - n % 49, 1, 0, 1000000) for n in range(250)]
        told = ask(*start, *questions)
        self.assertEqual(told[50:], [last(*start, question) for question in questions])

    def test_300_calls_of_each_further_question_with_60_entries_at_each_centre(self):
        decisions = [decide(1 + j % 3, j, 1, j) for j in range(1, 41)]
        for question in (wrong(1), unlike(1, 2), entries(3), fewest(1, 1, 0, 14, 0, 4, 7, 1),
                         painted(1, 1, 0, 1000000), howlong(2, 60, 1, 0, 1000000, 3), differ(1, 2, 1, 0, 1000000),
                         hidden(3), first(1, 1, 90, 9), asof(2, 15, 1, 100)):
            calls = decisions + self.FULL
            calls += [question] * (300 - len(calls))
            self.assertEqual(len(calls), 300)
            told = ask(*calls)
            with self.subTest(place=question[0]):
                self.assertEqual(told[104:], [last(*decisions, *self.FULL, question)] * 196)

    def test_60_entries_at_each_centre(self):
        told = ask(*self.FULL, unlike(1, 2), unlike(2, 3), differ(1, 2, 1, 0, 1000000), hidden(1), entries(2),
                   howlong(3, 60, 1, 0, 1000000, 0))
        self.assertEqual(told[64:67], [[0, 0], [0, 0], [0]])
        self.assertEqual(told[67], [0])
        self.assertEqual(told[68][:2], [20, 60])
        self.assertEqual(told[69], [1000000 - sum(200 - 2 * n - (198 - 2 * n if n < 59 else 0)
                                                  for n in range(60) if n % 5)])

    def test_further_rows_of_1000_numbers_together(self):
        row = [number for at in range(14) for number in (at, at % 3)]
        strokes = [number for at in range(9) for number in (at, at + 3, at % 4)]
        calls = [fewest(1, 1, 0, 20, *row)] * 17 + [painted(1, 1, 0, 20, *strokes)] * 19
        calls += [fewest(1, 1, 0, 20, 0, 0)] * 5 + [painted(1, 1, 0, 20, 1)]
        self.assertEqual(sum(call[5] for call in calls), 1000)
        told = ask(*calls)
        self.assertEqual(told[:17], [last(calls[0])] * 17)
        self.assertEqual(told[17:36], [[9, 0, 0, 1, 1, 2, 2, 3, 3, 4, 0, 5, 1, 6, 2, 7, 3, 8, 0]] * 19)
        self.assertEqual(told[36:], [[0]] * 5 + [[-2]])

    def test_one_further_row_of_1000_numbers(self):
        row = [number for at in range(500) for number in (at, at % 3)]
        told = ask(fewest(1, 1, 0, 500, *row), knows(1, 1, 0))
        self.assertEqual(told, [[-11], [0, 0, 0]])
        told = ask(painted(1, 1, 0, 500, *row), knows(1, 1, 0))
        self.assertEqual(told, [[-2], [0, 0, 0]])

    def test_a_list_of_thousands_of_numbers(self):
        calls = flat([painted(1, 1, 0, 1000, *[number for n in range(333) for number in (n, n + 1, n)])] +
                     [howlong(1, 0, 1, 0, 1000000, 0)] * 299)
        told = parted(answers(calls))
        self.assertEqual(len(told), 300)
        self.assertEqual(told[0][:3], [334, 0, 0])
        self.assertEqual(told[1:], [[1000000]] * 299)


if __name__ == "__main__":
    unittest.main()
