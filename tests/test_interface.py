"""What is handed in and given back by fragmentbuilder.house.answers."""

import contextlib
import io
import sys
import unittest

from fragmentbuilder.house import answers
from tests.helper import (
    FAR, accept, acceptor, accepts, answers_of, arrive, arrives, ask, at, begin, double, event, events, flat, fuse,
    garble, give_up, journal, lose, made, number, open_numbers, play, row_of, settled_rounds, source, wipe, words,
)

EACH_CALL = [
    fuse(9), begin(2), accept(0, 0, 5, [10, 20]), accept(0, 0, 5, [10, 20]), double(1), garble(1), arrive(1),
    arrive(2), lose(3), ask(), ask(), fuse(-1), ask(), ask(), give_up(), wipe(1), arrive(77), fuse(FAR),
    event(1), event(2), event(61), events(), open_numbers(), words(), acceptor(), source(1), source(2), source(3),
    number(0, 9), number(8, 0), number(0, 16), play(3), play(1000), play(-1), journal(), made(),
]
# 2 is kept (one of the fuse's nine), each ask sends a credit and a question: 4 to 11. 12 is the last credit.
EACH_ANSWER = [
    1, 0, 1, 2, 1, 1, 1, -3, 1, 3, 1, 0, 4, 0, 0, 0, 0,
    4, 0, 2, 1, 0, 1, 0, 1, 1, 1, 1, 1, 0, 1, 1, 1, 1, 2, 1, 1, 1, 1, 1, -5, 1, -1,
    3, 2, -1, 20, 1, 0, 1, -1, 3, 1, 1, 1, 4, 1, 1, 0, 0,
    55, 9, 4, 2, 0, 0, 0, 0, 5, 1, 1, 1, 0, 0, 6, 2, 0, 0, 0, 0, 7, 1, 1, 1, 0, 0, 8, 2, 0, 0, 0, 0,
    9, 1, 1, 1, 0, 0, 10, 2, 0, 0, 0, 0, 11, 1, 1, 1, 0, 0, 12, 2, 0, 1, 0, 0,
    3, 1, 0, 0, 1, 0, 2, 1, 1, 1, -1, 1, 0, 2, 1, 16, 1, -1,
    2, 3, 0, 2, 6, 1, 1, -1, 8, 2, 0, 1, 2, 20, 1, 1, 1, 1, 0,
]


class Unchangeable(list):
    """A list that can be read alone."""

    def refuse(self, *given, **named):
        raise AssertionError("what is handed in is changed")

    append = clear = extend = insert = pop = remove = reverse = sort = refuse
    __setitem__ = __delitem__ = __iadd__ = __imul__ = refuse


class Interface(unittest.TestCase):
    def test_the_form_of_the_answers(self):
        self.assertEqual(answers(flat(EACH_CALL)), EACH_ANSWER)

    def test_each_of_the_twenty_calls_is_there(self):
        self.assertEqual({call[0] for call in EACH_CALL}, set(range(20)))

    def test_one_call(self):
        self.assertEqual(answers([0, 6]), [1, 6])
        self.assertEqual(answers([6]), [1, -4])
        self.assertEqual(answers([1, 0, 0, 0, 0]), [1, -4])
        for call in (10, 15, 17):
            self.assertEqual(answers([call, 1]), [1, -4])
        for call in (11, 12, 13, 14, 19):
            self.assertEqual(answers([call]), [1, -4])
        self.assertEqual(answers([16, 0, 1]), [2, 1, 1])
        self.assertEqual(answers([16, 0, 0]), [1, 0])
        self.assertEqual(answers([18]), [1, 0])

    def test_a_row_is_read_to_its_end(self):
        for length in range(21):
            calls = begin(2) + at(1, [0] * length) + ask()
            self.assertEqual(answers(calls), [1, 2, 1, 1 if length == 2 else -1, 1, 2])

    def test_whole_numbers_in_a_list(self):
        given = answers(flat(EACH_CALL))
        self.assertIs(type(given), list)
        self.assertEqual({type(number) for number in given}, {int})

    def test_what_is_handed_in_is_not_changed(self):
        for calls in (flat(EACH_CALL), flat(settled_rounds(3, 2)), begin(2) + at(1, [3] * 20)):
            before = list(calls)
            answers(calls)
            self.assertEqual(calls, before)
            self.assertEqual(answers(Unchangeable(calls)), answers(calls))

    def test_what_is_given_back_is_new(self):
        calls = flat(EACH_CALL)
        given = answers(calls)
        given.clear()
        self.assertEqual(answers(calls), EACH_ANSWER)

    def test_nothing_is_kept_from_one_time_to_the_next(self):
        calls = flat(EACH_CALL)
        other = flat(settled_rounds(2, 3))
        first = answers(other)
        self.assertEqual(answers(calls), EACH_ANSWER)
        self.assertEqual(answers(other), first)
        self.assertEqual(answers(calls), EACH_ANSWER)
        self.assertEqual(answers([6]), [1, -4])

    def test_nothing_is_printed_or_imported(self):
        out = io.StringIO()
        modules = set(sys.modules)
        with contextlib.redirect_stdout(out), contextlib.redirect_stderr(out):
            answers(flat(EACH_CALL))
        self.assertEqual(out.getvalue(), "")
        self.assertEqual(set(sys.modules), modules)

    def test_two_hundred_calls(self):
        calls = [begin(6)] + accepts(6, 1, 8) + [fuse(-1)] * 100 + arrives(1, 43) + [ask()] * 3 + [wipe(1)] * 47
        self.assertEqual(len(calls), 200)
        given = answers(flat(calls))
        self.assertEqual(given[:2], [1, 6])
        self.assertEqual(given[-2:], [1, 7])

    def test_the_longest_list(self):
        # 199 rows of 20 numbers: 4977 numbers, all refused.
        calls = begin(2) + flat([accept(FAR, -FAR, FAR, [FAR] * 20)] * 199)
        self.assertEqual(answers(calls), [1, 2] + [1, -1] * 199)

    def test_sixty_accepted_in_two_hundred_calls(self):
        # Each round of six: the crossings, a play, and ten reports; the counters come round more than three times.
        pairs = [(begin(2), [2])]
        for k in range(10):
            newest = 6 * k + 6
            pairs += [(at(a, row_of(a, 2)), [a]) for a in range(newest - 5, newest + 1)]
            sent = 18 * k
            fragments = [[sent + 2 * a + z, 0, z, (newest - 5 + a) % 16, 100 * (newest - 5 + a) + z, 0]
                         for a in range(6) for z in (1, 2)]
            numbers = list(range(1, newest + 1))
            pairs += [
                (words(), [12] + flat(fragments)), (play(1000), [18, 1]), (words(), [0]),
                (event(newest), [1] + row_of(newest, 2)), (events(), [newest] + [0] * newest),
                (open_numbers(), [newest, newest, 0, 0]), (acceptor(), [newest, newest, 0]),
                (source(2), [newest] + numbers), (number(newest, newest % 16), [1, newest]),
                (made(), [newest] + numbers), (wipe(3), [-1]), (give_up(), [-6]),
            ]
        writings = []
        for a in range(1, 61):
            writings += [0, a, 1, 100 * a + 1, 0, a, 2, 100 * a + 2, 1, 0]
        pairs += [(journal(), [180] + writings)]
        pairs += [(event(a), [1] + row_of(a, 2)) for a in range(1, 19)]
        self.assertEqual(len(pairs), 200)
        self.assertEqual(answers_of([pair[0] for pair in pairs]), [pair[1] for pair in pairs])
