"""The calls arrive, lose, double and garble."""

from tests.helper import (
    CallsCase, FAR, accepts, arrive, arrives, ask, at, begin, double, garble, give_up, house_behind, is_under_way,
    lose, row_of, settled_rounds, wipe, words_under_way,
)


class Fragments(CallsCase):
    def test_kept_and_told(self):
        self.check(
            (begin(3), [3]), (at(1, [7, 8, 9]), [1]), (arrive(1), [0, 2, 1, 0]), (arrive(2), [0, 2, 1, 0]),
            (arrive(3), [0, 2, 1, 1]), (arrive(4), [2, 2, 1, 0]),
        )

    def test_two_and_six_sources(self):
        for n in (2, 6):
            pairs = [(begin(n), [n]), (at(1, row_of(1, n)), [1])]
            pairs += [(arrive(w), [0, 2, 1, 0]) for w in range(1, n)]
            pairs += [(arrive(n), [0, 2, 1, 1]), (arrive(n + 1), [2, 2, 1, 0]), (arrive(n + 2), [-5])]
            self.check(*pairs)

    def test_another_order(self):
        # Numbers 3, 2, 1: the last fragment of 1 tells all three, with one credit, 7.
        self.check(
            (begin(2), [2]), (at(1, [1, 2]), [1]), (at(2, [3, 4]), [2]), (at(3, [5, 6]), [3]),
            (arrive(6), [0, 2, 3, 0]), (arrive(5), [0, 2, 3, 0]), (arrive(3), [0, 2, 2, 0]),
            (arrive(2), [0, 2, 1, 0]), (arrive(4), [0, 2, 2, 0]), (arrive(1), [0, 2, 1, 3]),
            (arrive(7), [2, 2, 3, 0]), (arrive(8), [-5]),
        )

    def test_only_numbers_one_behind_the_other_are_told(self):
        # 1 and 3 are whole, 2 is not.
        self.check(
            (begin(2), [2]), (at(1, [1, 2]), [1]), (at(2, [3, 4]), [2]), (at(3, [5, 6]), [3]),
            (arrive(5), [0, 2, 3, 0]), (arrive(6), [0, 2, 3, 0]), (arrive(1), [0, 2, 1, 0]),
            (arrive(2), [0, 2, 1, 1]), (arrive(7), [2, 2, 1, 0]), (arrive(3), [0, 2, 2, 0]),
            (arrive(4), [0, 2, 2, 2]), (arrive(8), [2, 2, 3, 0]),
        )

    def test_kept_already(self):
        self.check(
            (begin(2), [2]), (at(1, [1, 2]), [1]), (double(1), [3]), (arrive(1), [0, 2, 1, 0]),
            (arrive(3), [0, 1, 1, 0]), (arrive(2), [0, 2, 1, 1]),
        )

    def test_settled_already(self):
        self.check(
            (begin(2), [2]), (at(1, [1, 2]), [1]), (double(1), [3]), (double(2), [4]), (arrive(1), [0, 2, 1, 0]),
            (arrive(2), [0, 2, 1, 1]), (arrive(3), [0, 1, 1, 0]), (arrive(4), [0, 1, 1, 0]),
            (arrive(5), [2, 2, 1, 0]), (arrive(6), [-5]),
        )

    def test_given_up_already(self):
        # Only source 1 is heard; the late fragment of source 2 changes nothing.
        self.check(
            (begin(2), [2]), (at(1, [1, 2]), [1]), (arrive(1), [0, 2, 1, 0]), (ask(), [1]), (ask(), [1]),
            (ask(), [1]), (give_up(), [1, 1]), (arrive(2), [0, 1, 1, 0]),
        )
        calls = [begin(2), at(1, [1, 2]), arrive(1), ask(), ask(), ask(), give_up(), arrive(2)]
        self.assertEqual(house_behind(calls).builder.journal, [(0, 1, 1, 1), (1, (2,))])

    def test_a_word_that_comes_is_gone(self):
        calls = [begin(2), at(1, [1, 2]), arrive(1)]
        for call in (arrive(1), lose(1), double(1), garble(1)):
            self.check_refused(calls, call, [-5], 2)

    def test_the_greatest_number_that_may_come_first(self):
        # Nothing but the seventh is heard of.
        self.check_last([begin(2)] + accepts(2, 1, 8) + [arrive(14)], [0, 2, 7, 0])
        # Settled is 14, the 21st comes first: counter 5. Two rounds have 42 words.
        calls = settled_rounds(2, 2) + accepts(2, 15, 22)
        self.check_last(calls + [arrive(42 + 14)], [0, 2, 21, 0])

    def test_a_fragment_seven_less_than_what_is_heard_of(self):
        # Numbers 15 to 21; 15 is settled, then 22 is accepted and heard of, then 15 comes once more.
        calls = settled_rounds(2, 2) + accepts(2, 15, 22) + [double(43), arrive(43), arrive(44)]
        # The twin is 57, the credit for 15 is 58, number 22 is sent as 59 and 60.
        calls += [arrive(58), at(22, [1, 2]), arrive(60)]
        self.check_last(calls, [0, 2, 22, 0])
        self.check_last(calls + [arrive(57)], [0, 1, 15, 0])

    def test_counters_come_round(self):
        calls = settled_rounds(2, 5)
        expected = [[2]]
        for first in range(1, 36, 7):
            expected += [[number] for number in range(first, first + 7)]
            for number in range(first, first + 7):
                expected += [[0, 2, number, 0], [0, 2, number, 1]]
            expected.append([2, 2, first + 6, 0])
        self.check(*zip(calls, expected))
        builder = house_behind(calls).builder
        self.assertEqual(builder.kept, {(a, z): 100 * a + z for a in range(1, 36) for z in (1, 2)})


class Questions(CallsCase):
    def test_answered_with_the_fragment_once_more(self):
        # ask sends the credit 3 and the questions 4 and 5; the fragment sent once more is 6.
        calls = [begin(2), at(1, [1, 2]), lose(1), lose(2), ask(), arrive(4)]
        self.check_last(calls, [1, 2, 1, 0])
        self.assertEqual(words_under_way(calls, 12), [(3, 2), (5, 1), (6, 0)])
        calls += [arrive(5), arrive(7), arrive(6)]
        self.check_last(calls, [0, 2, 1, 1])
        self.assertEqual(house_behind(calls).builder.journal, [(0, 1, 2, 2), (0, 1, 1, 1), (1, ())])

    def test_it_may_be_answered_though_the_builder_has_it_by_now(self):
        self.check(
            (begin(2), [2]), (at(1, [1, 2]), [1]), (ask(), [2]), (arrive(1), [0, 2, 1, 0]),
            (arrive(2), [0, 2, 1, 1]), (arrive(4), [1, 2, 1, 0]), (arrive(7), [0, 1, 1, 0]),
        )

    def test_asked_ahead_of_the_crossing(self):
        self.check(
            (begin(2), [2]), (ask(), [2]), (arrive(2), [1, 1, 1, 0]), (at(1, [1, 2]), [1]),
            (arrive(3), [1, 2, 1, 0]), (arrive(6), [0, 2, 1, 0]), (arrive(5), [0, 1, 1, 0]),
        )

    def test_asked_ahead_of_the_crossing_when_counters_came_round(self):
        # Three rounds have 63 words; all 21 are settled, so 22 is asked for: counter 6.
        calls = settled_rounds(2, 3) + [ask()]
        self.check_last(calls + [arrive(65)], [1, 1, 22, 0])
        self.check_last(calls + [at(22, [1, 2]), arrive(65)], [1, 2, 22, 0])

    def test_asked_for_sixteen_ahead_of_it(self):
        # All 15 are settled, so 16 is asked for: counter 0. 45 and 46 are credits, 47 and 48 questions.
        calls = settled_rounds(2, 2) + [at(15, [1, 2]), arrive(43), arrive(44), ask()]
        self.check_last(calls + [arrive(47)], [1, 1, 16, 0])
        self.check_last(calls + [at(16, [1, 2]), arrive(47)], [1, 2, 16, 0])

    def test_a_word_lost_by_wipe(self):
        calls = [begin(2), at(1, [1, 2]), ask(), wipe(1)]
        self.check_last(calls + [arrive(4)], [1, 1, 1, 0])
        self.assertEqual(words_under_way(calls + [arrive(4)], 12), [(1, 0), (2, 0), (3, 2), (5, 1)])
        self.check_last(calls + [arrive(5)], [1, 2, 1, 0])

    def question_for_one(self, newest):
        # The question 16 for number 1 is asked when seven are accepted; then 1 and 2 are told.
        calls = [begin(2)] + accepts(2, 1, 8) + [ask()] + arrives(1, 5)
        return calls + [arrive(19)] + accepts(2, 8, newest + 1)

    def test_a_number_seven_less_than_the_newest(self):
        calls = self.question_for_one(8)
        self.check_last(calls, [8])
        self.check_last(calls + [arrive(16)], [1, 2, 1, 0])
        self.assertTrue(is_under_way(calls + [arrive(16)], 22))

    def test_a_number_eight_less_than_the_newest(self):
        calls = self.question_for_one(9)
        self.check_last(calls, [9])
        self.check_last(calls + [arrive(16)], [1, 1, 1, 0])
        self.assertFalse(is_under_way(calls + [arrive(16)], 24))

    def test_a_question_thirteen_less_than_the_newest(self):
        # The question 16 for number 1 lives till the 14th is accepted.
        calls = [begin(2)] + accepts(2, 1, 8) + [ask()] + arrives(1, 15) + [arrive(24)] + accepts(2, 8, 15)
        self.check_last(calls, [14])
        self.check_last(calls + [arrive(16)], [1, 1, 1, 0])

    def test_each_question_goes_to_its_own_source(self):
        calls = [begin(4), at(1, [11, 12, 13, 14]), arrive(2), ask()]
        # The credit 5, the questions 6, 7 and 8 to the sources 1, 3 and 4.
        self.check_last(calls, [3])
        for w, source in ((6, 1), (7, 3), (8, 4)):
            self.check_last(calls + [arrive(w)], [1, 2, 1, 0])
            self.check_last(calls + [wipe(source), arrive(w)], [1, 1, 1, 0])
            house = house_behind(calls + [arrive(w), arrive(9)])
            self.assertEqual(house.builder.journal, [(0, 1, 2, 12), (0, 1, source, 10 + source)])


class Credits(CallsCase):
    def test_no_more_than_the_credit_that_is_there(self):
        # The credits for 1 and 2 are 5 and 6.
        calls = [begin(2), at(1, [1, 2]), at(2, [3, 4])] + arrives(1, 5)
        self.check_last(calls + [double(6), arrive(6)], [2, 2, 2, 0])
        self.check_last(calls + [double(6), arrive(6), arrive(7)], [2, 1, 2, 0])
        self.check_last(calls + [arrive(6), arrive(5)], [2, 1, 1, 0])
        self.check_last(calls + [arrive(5), arrive(6)], [2, 2, 2, 0])
        self.assertEqual(house_behind(calls + [arrive(6), arrive(5)]).acceptor.credit, 2)

    def test_nothing_settled(self):
        self.check((begin(2), [2]), (ask(), [2]), (arrive(1), [2, 1, 0, 0]))
        self.check((begin(2), [2]), (at(1, [1, 2]), [1]), (ask(), [2]), (arrive(3), [2, 1, 0, 0]))

    def test_sixteen(self):
        # Number 16 is sent as 46 and 47, the credit for it is 48: counter 0.
        calls = settled_rounds(2, 2) + [at(15, [1, 2]), arrive(43), arrive(44)] + [at(16, [1, 2])]
        calls += [arrive(46), arrive(47)]
        self.check_last(calls, [0, 2, 16, 1])
        self.check_last(calls + [arrive(48)], [2, 2, 16, 0])

    def test_a_credit_fourteen_less_than_the_newest(self):
        # Settled is 7 and the newest 14 when it is asked: the credit for 7, sent as 37, lives till 21 are
        # accepted. 8 to 14 are sent as 23 to 36, and their credits as 40 to 46. The twin 22 of the credit
        # that was sent behind the seventh lives till 14 are.
        calls = settled_rounds(2, 1)[:-1] + [double(21), arrive(21)] + accepts(2, 8, 15)
        self.check_last(calls + [arrive(22)], [2, 1, 7, 0])
        calls += [ask()] + arrives(23, 37) + [arrive(46)] + accepts(2, 15, 22)
        self.check_last(calls, [21])
        self.assertFalse(is_under_way(calls, 22))
        self.check_last(calls + [arrive(37)], [2, 1, 7, 0])


class Lose(CallsCase):
    def test_it_is_under_way_no_more(self):
        calls = [begin(2), at(1, [1, 2]), lose(1)]
        self.check_last(calls, [0])
        self.assertEqual(words_under_way(calls, 8), [(2, 0)])
        self.check_last(calls + [arrive(2)], [0, 2, 1, 0])

    def test_each_kind(self):
        calls = [begin(2), at(1, [1, 2]), ask()]
        for w in range(1, 6):
            self.check_last(calls + [lose(w)], [0])
            self.check_last(calls + [lose(w), arrive(w)], [-5])
            self.check_last(calls + [garble(w), lose(w)], [0])

    def test_there_is_room_behind_it(self):
        calls = [begin(2), at(1, [1, 2])] + [double(1)] * 98
        self.check_last(calls + [double(1)], [-8])
        self.check_last(calls + [lose(7), double(1)], [101])

    def test_numbers_are_not_given_twice(self):
        self.check((begin(2), [2]), (at(1, [1, 2]), [1]), (lose(2), [0]), (lose(1), [0]), (ask(), [2]),
                   (lose(2), [-5]), (lose(3), [0]), (lose(6), [-5]))


class Double(CallsCase):
    def test_one_more_like_it_behind_all(self):
        calls = [begin(2), at(1, [1, 2]), ask()]
        answers = {1: [0, 2, 1, 0], 2: [0, 2, 1, 0], 3: [2, 1, 0, 0], 4: [1, 2, 1, 0], 5: [1, 2, 1, 0]}
        for w in answers:
            self.check_last(calls + [double(w)], [6])
            self.assertEqual([v for v, kind in words_under_way(calls + [double(w)], 12)], [1, 2, 3, 4, 5, 6])
            self.check_last(calls + [double(w), arrive(w)], answers[w])
            self.check_last(calls + [double(w), arrive(6)], answers[w])
            self.check_last(calls + [double(w), lose(w), arrive(6)], answers[w])

    def test_its_word_and_source_are_the_same(self):
        calls = [begin(2), at(1, [11, 12]), double(2), lose(2), arrive(3)]
        self.assertEqual(house_behind(calls).builder.journal, [(0, 1, 2, 12)])

    def test_a_garbled_one_is_garbled_twice(self):
        calls = [begin(2), at(1, [1, 2]), garble(1), double(1)]
        self.check_last(calls + [arrive(1)], [0, 0, 0, 0])
        self.check_last(calls + [arrive(3)], [0, 0, 0, 0])

    def test_garbling_one_leaves_the_other(self):
        calls = [begin(2), at(1, [1, 2]), double(1)]
        self.check_last(calls + [garble(1), arrive(3)], [0, 2, 1, 0])
        self.check_last(calls + [garble(3), arrive(1)], [0, 2, 1, 0])

    def test_a_hundred_and_one_more(self):
        calls = [begin(2), at(1, [1, 2])] + [double(2)] * 97
        self.check_last(calls + [double(1)], [100])
        full = calls + [double(1)]
        self.check_refused(full, double(1), [-8], 2, most=4)
        self.check_last(full + [arrive(1), double(100)], [101])

    def test_no_such_word_is_told_ahead_of_a_hundred(self):
        calls = [begin(2), at(1, [1, 2])] + [double(2)] * 98
        self.check_last(calls + [double(101)], [-5])
        self.check_last(calls + [double(0)], [-5])


class Garble(CallsCase):
    def test_it_cannot_be_read(self):
        calls = [begin(2), at(1, [1, 2]), ask()]
        for w, kind in ((1, 0), (2, 0), (3, 2), (4, 1), (5, 1)):
            self.check_last(calls + [garble(w)], [0])
            self.check_last(calls + [garble(w), garble(w)], [0])
            self.check_last(calls + [garble(w), arrive(w)], [kind, 0, 0, 0])
            self.check_last(calls + [garble(w), garble(w), arrive(w)], [kind, 0, 0, 0])
            self.check_last(calls + [garble(w), arrive(w), arrive(w)], [-5])

    def test_nothing_comes_of_it(self):
        # A fragment isn't kept, a question isn't answered.
        self.check(
            (begin(2), [2]), (at(1, [1, 2]), [1]), (double(1), [3]), (garble(1), [0]), (arrive(1), [0, 0, 0, 0]),
            (arrive(3), [0, 2, 1, 0]), (ask(), [1]), (garble(5), [0]), (arrive(5), [1, 0, 0, 0]), (lose(6), [-5]),
        )

    def test_a_garbled_credit_is_not_taken(self):
        calls = [begin(2)] + accepts(2, 1, 8) + [arrive(1), arrive(2), garble(15), arrive(15)]
        self.check_last(calls, [2, 0, 0, 0])
        self.check_last(calls + [at(8, [1, 2])], [0])

    def test_it_stays_under_way(self):
        calls = [begin(2), at(1, [1, 2]), garble(1)]
        self.assertEqual(words_under_way(calls, 8), [(1, 0), (2, 0)])


class NoSuchWord(CallsCase):
    def test_numbers_that_no_word_has(self):
        calls = [begin(2), at(1, [1, 2]), ask(), lose(4)]
        for w in (-FAR, -1, 0, 4, 6, 7, FAR):
            for call in (arrive(w), lose(w), double(w), garble(w)):
                self.check_refused(calls, call, [-5], 2)
