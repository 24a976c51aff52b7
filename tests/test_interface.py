"""What is handed in and given back, and what is kept: nothing."""

import contextlib
import io
import unittest

from helper import ask, begin, changed, decide, flat, hand, knew, knows, last, line, since, sync, write
from knownwhendesk.centres import answers

EACH = (begin(), write(1, 1, 0, 10, 5), write(2, 1, 5, 15, 6), hand(1, 2, 0), sync(2, 1), knows(1, 1, 5),
        knew(1, 1, 1, 5), line(1, 2, 1, 0, 20), since(1, 1, 5), changed(1, 1, 2, 1, 0, 20), decide(1, 1, 1, 5),
        sync(1, 1), write(4, 1, 0, 1, 1))

TOLD = [1, 0,
        3, 0, 1, 1,
        3, 0, 1, 1,
        2, 0, 1,
        2, 0, 1,
        3, 6, 1, 2,
        3, 5, 1, 1,
        7, 3, 0, 5, 5, 6, 15, 0,
        2, 6, 2,
        9, 2, 5, 10, 5, 6, 10, 15, 0, 6,
        2, 0, 6,
        1, -4,
        1, -1]


class Interface(unittest.TestCase):
    def test_each_answer_behind_its_count(self):
        self.assertEqual(answers(flat(EACH)), TOLD)

    def test_a_list_of_whole_numbers(self):
        given = answers(flat(EACH))
        self.assertIs(type(given), list)
        self.assertEqual({type(number) for number in given}, {int})

    def test_the_list_handed_in_stays(self):
        handed = flat(EACH)
        answers(handed)
        self.assertEqual(handed, flat(EACH))

    def test_the_list_is_only_read(self):
        class Guarded(list):
            def refuse(self, *told):
                raise AssertionError("what is handed in is changed")

            append = extend = insert = pop = remove = clear = sort = reverse = refuse
            __setitem__ = __delitem__ = __iadd__ = __imul__ = refuse

        self.assertEqual(answers(Guarded(flat(EACH))), TOLD)

    def test_nothing_is_kept_from_one_time_to_the_next(self):
        self.assertEqual(answers(flat(EACH[1:])), TOLD[2:])
        self.assertEqual(answers(flat(EACH[1:])), TOLD[2:])
        self.assertEqual(answers(knows(1, 1, 5)), [3, 0, 0, 0])
        self.assertEqual(answers(decide(1, 1, 1, 5)), [2, 0, 0])

    def test_what_is_given_back_is_the_askers_own(self):
        given = answers(flat(EACH))
        given.clear()
        self.assertEqual(answers(flat(EACH)), TOLD)

    def test_nothing_is_printed(self):
        out = io.StringIO()
        with contextlib.redirect_stdout(out), contextlib.redirect_stderr(out):
            answers(flat(EACH))
        self.assertEqual(out.getvalue(), "")

    def test_300_calls(self):
        start = [write(1 + n % 3, 1, n, 100 - n, n + 1) for n in range(48)] + [sync(2, 1), sync(3, 1)]
        questions = [changed(1, n % 49, 48 - n % 49, 1, 0, 1000000) for n in range(250)]
        told = ask(*start, *questions)
        self.assertEqual(told[50:], [last(*start, question) for question in questions])


if __name__ == "__main__":
    unittest.main()
