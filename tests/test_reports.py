"""The calls acceptor, source and number; and what holds of all calls that only tell."""

from tests.helper import (
    CallsCase, FAR, acceptor, accepts, answers_of, arrive, arrives, ask, at, begin, double, event, events, fuse,
    garble, give_up, lose, made, number, open_numbers, play, reports, settled_rounds, source, wipe, words,
)


class Acceptor(CallsCase):
    def test_nothing_accepted(self):
        self.check_all([begin(2)], [(acceptor(), [0, 0, 0])])

    def test_the_newest(self):
        for newest in range(8):
            self.check_all([begin(2)] + accepts(2, 1, newest + 1), [(acceptor(), [newest, 0, 0])])

    def test_dead_ones_are_counted(self):
        calls = [begin(2)] + accepts(2, 1, 8)
        for dead in range(5):
            self.check_all(calls + [at(8, [1, 2])] * dead, [(acceptor(), [7, 0, dead])])

    def test_refused_ones_are_not_counted(self):
        calls = [begin(2)] + accepts(2, 1, 8) + [at(7, [1, 2]), at(8, [1]), at(1000, [1, 2]), at(8, [1, 10000])]
        self.check_all(calls, [(acceptor(), [7, 0, 0])])

    def test_ahead_of_and_behind_the_coming_of_a_credit(self):
        # The credits of 1 and 2 are 15 and 16.
        calls = [begin(2)] + accepts(2, 1, 8) + [at(8, [1, 2])] + arrives(1, 5)
        self.check_all(calls, [(acceptor(), [7, 0, 1])])
        self.check_all(calls + [arrive(15)], [(acceptor(), [7, 1, 1])])
        self.check_all(calls + [arrive(16)], [(acceptor(), [7, 2, 1])])
        self.check_all(calls + [arrive(16), arrive(15)], [(acceptor(), [7, 2, 1])])
        self.check_all(calls + [garble(16), arrive(16)], [(acceptor(), [7, 0, 1])])
        self.check_all(calls + [lose(16)], [(acceptor(), [7, 0, 1])])
        self.check_all(calls + [arrive(15), at(8, [1, 2]), at(9, [1, 2])], [(acceptor(), [8, 1, 2])])

    def test_counters_came_round(self):
        self.check_all(settled_rounds(2, 5), [(acceptor(), [35, 35, 0])])


class Source(CallsCase):
    def test_nothing_accepted(self):
        self.check_all([begin(2)], [(source(1), [0]), (source(2), [0])])

    def test_all_that_were_accepted(self):
        calls = [begin(3)] + accepts(3, 1, 4)
        self.check_all(calls, [(source(z), [3, 1, 2, 3]) for z in (1, 2, 3)])

    def test_told_ones_are_kept(self):
        self.check_all(settled_rounds(2, 3), [(source(2), [21] + list(range(1, 22)))])

    def test_dead_ones_are_not_there(self):
        calls = [begin(2)] + accepts(2, 1, 8) + [at(8, [1, 2])]
        self.check_all(calls, [(source(1), [7, 1, 2, 3, 4, 5, 6, 7])])

    def test_behind_a_wipe_and_an_accept_that_follows(self):
        calls = [begin(3)] + accepts(3, 1, 4) + [wipe(2)]
        self.check_all(calls, [(source(1), [3, 1, 2, 3]), (source(2), [0]), (source(3), [3, 1, 2, 3])])
        calls += accepts(3, 4, 6)
        self.check_all(calls, [(source(1), [5, 1, 2, 3, 4, 5]), (source(2), [2, 4, 5])])
        calls += [wipe(2)]
        self.check_all(calls, [(source(2), [0])])
        self.check_all(calls + accepts(3, 6, 7), [(source(2), [1, 6]), (source(3), [6, 1, 2, 3, 4, 5, 6])])

    def test_its_range(self):
        for n in range(2, 7):
            calls = [begin(n)] + accepts(n, 1, 2)
            self.check_all(calls, [(source(0), [-1]), (source(1), [1, 1]), (source(n), [1, 1]), (source(n + 1), [-1])])
        for z in (-FAR, -1, 0, 3, 7, FAR):
            self.check_refused([begin(2)] + accepts(2, 1, 2), source(z), [-1], 2)


class Number(CallsCase):
    def test_each_number_and_counter(self):
        # 199 in a list, so that no list has more than 200 calls.
        wanted = [(n, k) for n in list(range(60)) + [984, 991, 992, 999, 1000] for k in range(16)]
        for start in range(0, len(wanted), 199):
            pairs = [(begin(2), [2])]
            for n, k in wanted[start:start + 199]:
                fitting = [a for a in range(n + 8 - 15, n + 8 + 1) if a >= 1 and a % 16 == k]
                pairs.append((number(n, k), [1, fitting[0]] if fitting else [0]))
            self.check(*pairs)

    def test_none_where_the_top_is_less_than_sixteen(self):
        self.check(
            (number(0, 0), [0]), (number(0, 1), [1, 1]), (number(0, 8), [1, 8]), (number(0, 9), [0]),
            (number(0, 15), [0]), (number(7, 0), [0]), (number(7, 15), [1, 15]), (number(8, 0), [1, 16]),
            (number(8, 1), [1, 1]), (number(9, 1), [1, 17]), (number(6, 15), [0]),
        )

    def test_the_ends_of_the_ranges(self):
        self.check((number(1000, 0), [1, 1008]), (number(1000, 15), [1, 1007]), (number(1000, 1), [1, 993]))

    def test_just_outside(self):
        for call in (number(-1, 0), number(1001, 0), number(0, -1), number(0, 16), number(-1, 16)):
            self.check((call, [-1]), (begin(2), [2]), (call, [-1]))
            self.check_refused([begin(2)] + accepts(2, 1, 3), call, [-1], 2)
        for far in (-FAR, FAR):
            self.check((number(far, 3), [-1]), (number(3, far), [-1]))

    def test_ahead_of_begin(self):
        self.check((number(20, 3), [1, 19]), (begin(2), [2]), (number(20, 3), [1, 19]))

    def test_it_is_not_of_this_house(self):
        self.check_all(settled_rounds(2, 3), [(number(0, 5), [1, 5]), (number(100, 12), [1, 108])])


class NotBegun(CallsCase):
    def test_each_but_number_and_journal(self):
        for call in (event(1), events(), open_numbers(), words(), acceptor(), source(1), play(1), made()):
            self.check((call, [-4]), (fuse(-1), [0]), (call, [-4]))
            self.check_refused([], call, [-4], 2)

    def test_it_is_told_ahead_of_wrong_numbers(self):
        wrong = [event(0), event(61), event(-FAR), source(0), source(7), source(FAR), play(-1), play(1001), play(FAR)]
        self.check(*[(call, [-4]) for call in wrong])
        self.check(*([(begin(6), [6])] + [(call, [-1]) for call in wrong]))


SCENES = (
    [begin(2)],
    [begin(2)] + accepts(2, 1, 8) + [at(8, [1, 2]), double(1), garble(2), lose(3), arrive(1), ask(), fuse(2)],
    [begin(4)] + accepts(4, 1, 5) + [arrive(w) for w in (1, 2, 4, 5, 9, 10, 11, 12)] + [ask()] * 3,
    [begin(4)] + accepts(4, 1, 5) + [arrive(w) for w in (1, 2, 4, 5)] + [ask()] * 3 + [give_up(), wipe(2)],
    settled_rounds(3, 2) + accepts(3, 15, 18) + [wipe(1), ask()],
)


class AskingChangesNothing(CallsCase):
    def test_asked_twice(self):
        for calls in SCENES:
            n = calls[0][1]
            asked = reports(n)
            given = answers_of(calls + asked + asked)[len(calls):]
            self.assertEqual(given[:len(asked)], given[len(asked):])

    def test_asked_between_other_calls(self):
        for calls in SCENES:
            n = calls[0][1]
            for report in reports(n):
                between = [one for call in calls for one in (call, report)]
                self.assertEqual(answers_of(between)[0::2], answers_of(calls))

    def test_each_by_itself_leaves_all_as_it_was(self):
        for calls in SCENES:
            n = calls[0][1]
            behind = [play(3)] + reports(n) + [ask(), play(1000)] + reports(n)
            without = answers_of(calls + behind)[len(calls):]
            for report in reports(n):
                self.assertEqual(answers_of(calls + [report] * 2 + behind)[len(calls) + 2:], without)

    def test_a_fuse_is_not_burnt(self):
        calls = [begin(2), fuse(0)] + accepts(2, 1, 2)
        for report in reports(2):
            self.assertEqual(answers_of(calls + [report, arrive(1)])[-1], [-20])
