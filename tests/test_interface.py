"""What is handed in and given back by fragmentbuilder.house.answers."""

import contextlib
import io
import sys
import unittest

from fragmentbuilder.house import answers
from tests.helper import (
    FAR, accept, accepts, arrive, arrives, ask, at, begin, double, flat, fuse, garble, give_up, lose,
    settled_rounds, wipe,
)

EACH_CALL = [
    fuse(9), begin(2), accept(0, 0, 5, [10, 20]), accept(0, 0, 5, [10, 20]), double(1), garble(1), arrive(1),
    arrive(2), lose(3), ask(), ask(), fuse(-1), ask(), ask(), give_up(), wipe(1), arrive(77), fuse(FAR),
]
# 2 is kept (one of the fuse's nine), each ask sends a credit and a question.
EACH_ANSWER = [
    1, 0, 1, 2, 1, 1, 1, -3, 1, 3, 1, 0, 4, 0, 0, 0, 0,
    4, 0, 2, 1, 0, 1, 0, 1, 1, 1, 1, 1, 0, 1, 1, 1, 1, 2, 1, 1, 1, 1, 1, -5, 1, -1,
]


class Unchangeable(list):
    """A list that can be read alone."""

    def refuse(self, *given, **named):
        raise AssertionError("what is handed in is changed")

    append = clear = extend = insert = pop = remove = reverse = sort = refuse
    __setitem__ = __delitem__ = __iadd__ = __imul__ = refuse


class Interface(unittest.TestCase):
    def test_the_form_of_the_answers(self):
        self.assertEqual(answers(flat(EACH_CALL)), EACH_ANSWER)

    def test_one_call(self):
        self.assertEqual(answers([0, 6]), [1, 6])
        self.assertEqual(answers([6]), [1, -4])
        self.assertEqual(answers([1, 0, 0, 0, 0]), [1, -4])

    def test_a_row_is_read_to_its_end(self):
        for length in range(21):
            calls = begin(2) + at(1, [0] * length) + ask()
            self.assertEqual(answers(calls), [1, 2, 1, 1 if length == 2 else -1, 1, 2])

    def test_whole_numbers_in_a_list(self):
        given = answers(flat(EACH_CALL))
        self.assertIs(type(given), list)
        self.assertEqual({type(number) for number in given}, {int})

    def test_what_is_handed_in_is_not_changed(self):
        for calls in (flat(EACH_CALL), flat(settled_rounds(3, 2)), begin(2) + at(1, [3] * 20)):
            before = list(calls)
            answers(calls)
            self.assertEqual(calls, before)
            self.assertEqual(answers(Unchangeable(calls)), answers(calls))

    def test_what_is_given_back_is_new(self):
        calls = flat(EACH_CALL)
        given = answers(calls)
        given.clear()
        self.assertEqual(answers(calls), EACH_ANSWER)

    def test_nothing_is_kept_from_one_time_to_the_next(self):
        calls = flat(EACH_CALL)
        other = flat(settled_rounds(2, 3))
        first = answers(other)
        self.assertEqual(answers(calls), EACH_ANSWER)
        self.assertEqual(answers(other), first)
        self.assertEqual(answers(calls), EACH_ANSWER)
        self.assertEqual(answers([6]), [1, -4])

    def test_nothing_is_printed_or_imported(self):
        out = io.StringIO()
        modules = set(sys.modules)
        with contextlib.redirect_stdout(out), contextlib.redirect_stderr(out):
            answers(flat(EACH_CALL))
        self.assertEqual(out.getvalue(), "")
        self.assertEqual(set(sys.modules), modules)

    def test_two_hundred_calls(self):
        calls = [begin(6)] + accepts(6, 1, 8) + [fuse(-1)] * 100 + arrives(1, 43) + [ask()] * 3 + [wipe(1)] * 47
        self.assertEqual(len(calls), 200)
        given = answers(flat(calls))
        self.assertEqual(given[:2], [1, 6])
        self.assertEqual(given[-2:], [1, 7])

    def test_the_longest_list(self):
        # 199 rows of 20 numbers: 4977 numbers, all refused.
        calls = begin(2) + flat([accept(FAR, -FAR, FAR, [FAR] * 20)] * 199)
        self.assertEqual(answers(calls), [1, 2] + [1, -1] * 199)
