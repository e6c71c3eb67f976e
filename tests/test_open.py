"""The calls open and words."""

from tests.helper import (
    CallsCase, accepts, arrive, arrives, ask, at, begin, double, fuse, garble, give_up, lose, open_numbers,
    settled_rounds, wipe, words,
)


class Open(CallsCase):
    def test_nothing_heard_of(self):
        self.check_all([begin(2)], [(open_numbers(), [0, 0, 0, 0])])
        self.check_all([begin(2)] + accepts(2, 1, 4), [(open_numbers(), [0, 0, 0, 0])])

    def test_all_that_was_heard_of_is_settled(self):
        self.check_all([begin(2)] + accepts(2, 1, 4) + arrives(1, 5), [(open_numbers(), [2, 2, 0, 0])])

    def test_one_number_some_sources_lack(self):
        calls = [begin(3)] + accepts(3, 1, 2)
        self.check_all(calls + [arrive(1)], [(open_numbers(), [0, 1, 0, 1, 2, 2, 3])])
        self.check_all(calls + [arrive(2)], [(open_numbers(), [0, 1, 0, 1, 2, 1, 3])])
        self.check_all(calls + [arrive(3), arrive(1)], [(open_numbers(), [0, 1, 0, 1, 1, 2])])

    def test_none_some_and_all_sources_lack(self):
        # Of 1 to 4, sent as 1 to 12: 1 and 3 lack all, 2 lacks 2 and 3, 4 is whole.
        calls = [begin(3)] + accepts(3, 1, 5) + [arrive(4)] + arrives(10, 13)
        self.check_all(calls, [(open_numbers(), [0, 4, 0, 4, 3, 1, 2, 3, 2, 2, 3, 3, 1, 2, 3, 0])])
        # 1 comes; then 2 and the numbers behind it are open still.
        self.check_all(calls + arrives(1, 4), [(open_numbers(), [1, 4, 0, 3, 2, 2, 3, 3, 1, 2, 3, 0])])

    def test_whole_and_not_told(self):
        calls = [begin(2)] + accepts(2, 1, 3) + arrives(2, 5) + [fuse(1), arrive(1)]
        self.check_all(calls, [(open_numbers(), [0, 2, 0, 2, 0, 0])])

    def test_behind_a_telling_as_lacking(self):
        calls = [begin(2)] + accepts(2, 1, 4) + [arrive(1), arrive(6)] + [ask()] * 3 + [give_up()]
        self.check_all(calls, [(open_numbers(), [1, 3, 0, 2, 2, 1, 2, 1, 1])])

    def test_how_often_it_was_asked(self):
        calls = [begin(2)] + accepts(2, 1, 3) + [arrive(1)]
        for k in range(6):
            self.check_all(calls + [ask()] * k, [(open_numbers(), [0, 1, k, 1, 1, 2])])

    def test_asked_ahead_of_all(self):
        self.check_all([begin(2), ask(), ask()], [(open_numbers(), [0, 0, 2, 0])])

    def test_counted_from_the_last_telling_on(self):
        calls = [begin(2)] + accepts(2, 1, 3) + [arrive(1), ask(), ask(), arrive(2)]
        self.check_all(calls, [(open_numbers(), [1, 1, 0, 0])])
        self.check_all(calls + [ask()], [(open_numbers(), [1, 1, 1, 0])])
        given_up = [begin(2)] + accepts(2, 1, 3) + [arrive(1)] + [ask()] * 4
        self.check_all(given_up, [(open_numbers(), [0, 1, 4, 1, 1, 2])])
        self.check_all(given_up + [give_up()], [(open_numbers(), [1, 1, 0, 0])])

    def test_power_gone_in_an_ask_does_not_count(self):
        # An ask sends a credit and a question.
        calls = [begin(2)] + accepts(2, 1, 3) + [arrive(1), ask(), ask()]
        for k, asked in ((0, 2), (1, 2), (2, 3), (9, 3), (-1, 3)):
            self.check_all(calls + [fuse(k), ask()], [(open_numbers(), [0, 1, asked, 1, 1, 2])])

    def test_power_gone_in_an_ask_that_tells(self):
        # Asked twice, then 1 is whole and not told: the ask writes it, then sends a credit and two questions.
        calls = [begin(2)] + accepts(2, 1, 3) + [arrive(1), ask(), ask(), fuse(1), arrive(2)]
        self.check_all(calls, [(open_numbers(), [0, 1, 2, 1, 0])])
        self.check_all(calls + [fuse(0), ask()], [(open_numbers(), [0, 1, 2, 1, 0])])
        for k in (1, 2, 3):
            self.check_all(calls + [fuse(k), ask()], [(open_numbers(), [1, 1, 0, 0])])
        for k in (-1, 4, 9):
            self.check_all(calls + [fuse(k), ask()], [(open_numbers(), [1, 1, 1, 0])])

    def test_power_gone_elsewhere_leaves_the_count(self):
        calls = [begin(3)] + accepts(3, 1, 2) + [arrive(1), ask(), fuse(0), arrive(2)]
        self.check_all(calls, [(open_numbers(), [0, 1, 1, 1, 2, 2, 3])])

    def test_the_greatest_that_may_be_heard_of(self):
        calls = settled_rounds(2, 2) + accepts(2, 15, 22) + [arrive(42 + 14)]
        self.check_all(calls, [(open_numbers(), [14, 21, 0, 7] + [2, 1, 2] * 6 + [1, 1])])


class Words(CallsCase):
    def test_none(self):
        self.check_all([begin(2)], [(words(), [0])])
        self.check_all([begin(2)] + accepts(2, 1, 2) + arrives(1, 4), [(words(), [0])])

    def test_fragments(self):
        for n in range(2, 7):
            row = [number for z in range(1, n + 1) for number in (z, 0, z, 1, 100 + z, 0)]
            self.check_all([begin(n)] + accepts(n, 1, 2), [(words(), [n] + row)])

    def test_words_at_both_ends_of_their_range(self):
        self.check_all([begin(2), at(1, [0, 9999])], [(words(), [2, 1, 0, 1, 1, 0, 0, 2, 0, 2, 1, 9999, 0])])

    def test_each_kind(self):
        # The credit 5 is of number 1, the ask sends the credit 6 and the question 7 to source 2 for number 2.
        calls = [begin(2)] + accepts(2, 1, 3) + arrives(1, 4) + [ask()]
        self.check_all(calls, [
            (words(), [4, 4, 0, 2, 2, 202, 0, 5, 2, 0, 1, 0, 0, 6, 2, 0, 1, 0, 0, 7, 1, 2, 2, 0, 0]),
        ])
        # The question is answered by the same fragment, 8.
        self.check_all(calls + [arrive(7)] + arrives(5, 7), [(words(), [2, 4, 0, 2, 2, 202, 0, 8, 0, 2, 2, 202, 0])])

    def test_asked_ahead_of_all(self):
        self.check_all([begin(2), ask()], [
            (words(), [3, 1, 2, 0, 0, 0, 0, 2, 1, 1, 1, 0, 0, 3, 1, 2, 1, 0, 0]),
        ])

    def test_counters_come_round(self):
        # Two rounds have 42 words. 15, 16 and 17 are sent as 43 to 48.
        calls = settled_rounds(2, 2) + accepts(2, 15, 18)
        # The seven credits of the second round, but for the last: 36 to 41, of 8 to 13.
        calls += [lose(w) for w in range(36, 42)]
        fragments = [43, 0, 1, 15, 1501, 0, 44, 0, 2, 15, 1502, 0, 45, 0, 1, 0, 1601, 0]
        fragments += [46, 0, 2, 0, 1602, 0, 47, 0, 1, 1, 1701, 0, 48, 0, 2, 1, 1702, 0]
        early = [number for w in range(15, 21) for number in (w, 2, 0, w - 14, 0, 0)]
        self.check_all(settled_rounds(2, 1), [(words(), [6] + early)])
        self.check_all(calls, [(words(), [6] + fragments)])
        # 15 comes: the credit 49 of 15, and the ask's credit 50 and questions 51 and 52 for 16.
        asked = [49, 2, 0, 15, 0, 0, 50, 2, 0, 15, 0, 0, 51, 1, 1, 0, 0, 0, 52, 1, 2, 0, 0, 0]
        self.check_all(calls + [arrive(43), arrive(44), ask()], [(words(), [8] + fragments[12:] + asked)])

    def test_garbled(self):
        calls = [begin(2)] + accepts(2, 1, 2) + [ask()] + [garble(w) for w in range(1, 6)]
        row = [1, 0, 1, 1, 101, 1, 2, 0, 2, 1, 102, 1, 3, 2, 0, 0, 0, 1, 4, 1, 1, 1, 0, 1, 5, 1, 2, 1, 0, 1]
        self.check_all(calls, [(words(), [5] + row)])
        self.check_all([begin(2)] + accepts(2, 1, 2) + [garble(2)], [
            (words(), [2, 1, 0, 1, 1, 101, 0, 2, 0, 2, 1, 102, 1]),
        ])

    def test_doubled_behind_all(self):
        calls = [begin(2)] + accepts(2, 1, 2) + [double(1), ask(), double(5)]
        # 3 is the twin of 1, 4 a credit, 5 and 6 questions, 7 the twin of 5.
        row = [1, 0, 1, 1, 101, 0, 2, 0, 2, 1, 102, 0, 3, 0, 1, 1, 101, 0]
        row += [4, 2, 0, 0, 0, 0, 5, 1, 1, 1, 0, 0, 6, 1, 2, 1, 0, 0, 7, 1, 1, 1, 0, 0]
        self.check_all(calls, [(words(), [7] + row)])
        self.check_all(calls + [lose(1), lose(5)], [(words(), [5] + row[6:24] + row[30:])])

    def test_doubled_and_garbled(self):
        calls = [begin(2)] + accepts(2, 1, 2) + [garble(1), double(1), double(2), garble(2)]
        self.check_all(calls, [
            (words(), [4, 1, 0, 1, 1, 101, 1, 2, 0, 2, 1, 102, 1, 3, 0, 1, 1, 101, 1, 4, 0, 2, 1, 102, 0]),
        ])

    def test_lost_and_come(self):
        calls = [begin(3)] + accepts(3, 1, 2)
        self.check_all(calls + [lose(2)], [(words(), [2, 1, 0, 1, 1, 101, 0, 3, 0, 3, 1, 103, 0])])
        self.check_all(calls + [lose(2), arrive(1)], [(words(), [1, 3, 0, 3, 1, 103, 0])])

    def test_too_old(self):
        # 15 is the twin of the fragment 1; the credits of 1 to 6, sent as 16 to 21, are lost.
        calls = [begin(2)] + accepts(2, 1, 8) + [double(1)] + arrives(1, 15) + [arrive(22)]
        calls += [lose(w) for w in range(16, 22)] + accepts(2, 8, 9)
        eighth = [23, 0, 1, 8, 801, 0, 24, 0, 2, 8, 802, 0]
        self.check_all(calls, [(words(), [3, 15, 0, 1, 1, 101, 0] + eighth)])
        ninth = [25, 0, 1, 9, 901, 0, 26, 0, 2, 9, 902, 0]
        self.check_all(calls + accepts(2, 9, 10), [(words(), [4] + eighth + ninth)])

    def test_a_wipe_leaves_what_is_under_way(self):
        self.check_all([begin(2)] + accepts(2, 1, 2) + [wipe(1), wipe(2)], [
            (words(), [2, 1, 0, 1, 1, 101, 0, 2, 0, 2, 1, 102, 0]),
        ])

    def test_a_hundred(self):
        calls = [begin(2), at(1, [7, 8])] + [double(2)] * 98
        row = [number for w in range(2, 101) for number in (w, 0, 2, 1, 8, 0)]
        self.check_all(calls, [(words(), [100, 1, 0, 1, 1, 7, 0] + row)])

    def test_power_in_an_ask(self):
        for k, row in ((0, [0]), (1, [1, 1, 2, 0, 0, 0, 0]), (2, [2, 1, 2, 0, 0, 0, 0, 2, 1, 1, 1, 0, 0])):
            self.check_all([begin(2), fuse(k), ask()], [(words(), row)])
