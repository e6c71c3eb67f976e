"""Calls by name, their answers one by one, and what the answers show of a house."""

import unittest

from fragmentbuilder.calls import answer_to
from fragmentbuilder.house import House, answers

FAR = 10 ** 18


def begin(n):
    return [0, n]


def accept(run, block, crossing, row):
    return [1, run, block, crossing, len(row)] + row


def at(crossing, row):
    return accept(0, 0, crossing, row)


def arrive(w):
    return [2, w]


def lose(w):
    return [3, w]


def double(w):
    return [4, w]


def garble(w):
    return [5, w]


def ask():
    return [6]


def give_up():
    return [7]


def wipe(z):
    return [8, z]


def fuse(k):
    return [9, k]


def event(a):
    return [10, a]


def events():
    return [11]


def open_numbers():
    return [12]


def words():
    return [13]


def acceptor():
    return [14]


def source(z):
    return [15, z]


def number(n, k):
    return [16, n, k]


def play(k):
    return [17, k]


def journal():
    return [18]


def made():
    return [19]


def flat(calls):
    return [number for call in calls for number in call]


def split(answered):
    parts = []
    place = 0
    while place < len(answered):
        end = place + 1 + answered[place]
        parts.append(answered[place + 1:end])
        place = end
    return parts


def answers_of(calls):
    return split(answers(flat(calls)))


def last(calls):
    return answers_of(calls)[-1]


def is_under_way(calls, w):
    return last(calls + [lose(w)]) == [0]


def words_under_way(calls, most=130):
    """The numbers of the words under way behind these calls, each with its kind."""
    found = []
    for w in range(1, most + 1):
        if is_under_way(calls, w):
            found.append((w, last(calls + [fuse(-1), arrive(w)])[0]))
    return found


def row_of(a, n):
    """Words of which no two crossings and no two sources have the same."""
    return [100 * a + z for z in range(1, n + 1)]


def accepts(n, first, behind):
    return [at(a, row_of(a, n)) for a in range(first, behind)]


def arrives(first, behind):
    return [arrive(w) for w in range(first, behind)]


def settled_rounds(n, count):
    """Begun, and so many times seven crossings are accepted and told; the last of their credits comes.

    Each round sends 7n fragments, then seven credits.
    """
    calls = [begin(n)]
    for k in range(count):
        base = k * (7 * n + 7)
        calls += accepts(n, 7 * k + 1, 7 * k + 8)
        calls += arrives(base + 1, base + 7 * n + 1)
        calls.append(arrive(base + 7 * n + 7))
    return calls


def house_behind(calls):
    """The house itself, for what none of the calls answers."""
    house = House()
    for call in calls:
        given = call[1:]
        if call[0] == 1:
            given = call[1:4] + [call[5:]]
        answer_to(house, call[0], given)
    return house


def reports(n):
    """All calls that only tell; number is asked at both ends of the top's edge."""
    told = [events(), open_numbers(), words(), acceptor(), journal(), made(), number(0, 8), number(0, 9)]
    return told + [source(z) for z in range(1, n + 1)] + [event(a) for a in (1, 2, 7, 60)]


def probes(n, most):
    """Rows of calls that show by their answers what a house holds."""
    everything = [arrive(w) for w in range(1, most + 1)]
    later = accept(99, 99, 999, [7] * n)
    rows = [
        reports(n),
        everything,
        [play(1000)] + reports(n),
        everything + [ask(), ask(), ask(), give_up(), later],
        everything[::-1] + [give_up(), later],
        [ask()] + everything,
        [give_up()] + everything,
        [give_up(), ask(), give_up(), ask(), give_up(), ask(), give_up()],
        [fuse(-1), ask(), give_up()] + everything,
        [later] + everything,
        [wipe(1)] + everything,
        [begin(3), later, later, later, later, later, later, later, later],
    ]
    rows += [[double(w), arrive(w), arrive(w)] for w in range(1, most + 1)]
    return rows


def seen(calls, n, most):
    """All that the probes answer behind the calls."""
    count = len(answers_of(calls)) if calls else 0
    return [answers_of(calls + row)[count:] for row in probes(n, most)]


class CallsCase(unittest.TestCase):
    maxDiff = None

    def check(self, *pairs):
        """Each pair is a call and its whole answer; all are calls on one house."""
        calls = [pair[0] for pair in pairs]
        self.assertEqual(answers_of(calls), [pair[1] for pair in pairs])

    def check_last(self, calls, answer):
        self.assertEqual(last(calls), answer)

    def check_all(self, calls, reports_and_answers):
        """Behind the calls these reports, in a row, have these answers, and have them once more."""
        asked = [pair[0] for pair in reports_and_answers]
        expected = [pair[1] for pair in reports_and_answers]
        given = answers_of(calls + asked + asked)[-2 * len(asked):]
        self.assertEqual(given, expected + expected)

    def check_refused(self, calls, refused, answer, n, most=12):
        """The call is refused so, and the house behind it is as it was ahead of it."""
        self.assertEqual(last(calls + [refused]), answer)
        self.assertEqual(seen(calls + [refused], n, most), seen(calls, n, most))
