"""The call accept."""

from tests.helper import (
    CallsCase, FAR, accept, accepts, arrive, arrives, ask, at, begin, double, garble, house_behind, is_under_way,
    lose, row_of, settled_rounds, words_under_way,
)


def seven_accepted(n):
    return [begin(n)] + accepts(n, 1, 8)


class Numbers(CallsCase):
    def test_in_the_order_accepted(self):
        self.check(
            (begin(2), [2]), (accept(3, 4, 5, [0, 9999]), [1]), (accept(3, 4, 6, [1, 2]), [2]),
            (accept(3, 5, 0, [1, 2]), [3]), (accept(4, 0, 0, [1, 2]), [4]),
        )

    def test_a_fragment_of_each_source_is_sent_rising(self):
        for n in range(2, 7):
            calls = [begin(n), at(1, row_of(1, n)), at(2, row_of(2, n))]
            self.assertEqual(words_under_way(calls, 20), [(w, 0) for w in range(1, 2 * n + 1)])
            house = house_behind(calls + arrives(1, 2 * n))
            kept = [(0, 1, z, 100 + z) for z in range(1, n + 1)]
            kept += [(1, ())] + [(0, 2, z, 200 + z) for z in range(1, n)]
            self.assertEqual(house.builder.journal, kept)

    def test_ranges_at_their_ends(self):
        self.check(
            (begin(2), [2]), (accept(0, 0, 0, [0, 0]), [1]), (accept(99, 99, 999, [9999, 9999]), [2]),
        )

    def test_ranges_just_beyond(self):
        calls = [begin(2), accept(0, 0, 1, [1, 2])]
        wrong = [accept(-1, 1, 1, [1, 2]), accept(1, -1, 1, [1, 2]), accept(1, 1, -1, [1, 2])]
        wrong += [accept(100, 1, 1, [1, 2]), accept(1, 100, 1, [1, 2]), accept(1, 1, 1000, [1, 2])]
        wrong += [accept(1, 1, 1, [-1, 2]), accept(1, 1, 1, [1, -1])]
        wrong += [accept(1, 1, 1, [10000, 2]), accept(1, 1, 1, [1, 10000])]
        for call in wrong:
            self.check_refused(calls, call, [-1], 2)

    def test_far_numbers(self):
        for far in (-FAR, FAR):
            for place in (1, 2, 3, 5, 6):
                call = accept(1, 1, 1, [1, 2])
                call[place] = far
                self.check((begin(2), [2]), (call, [-1]))

    def test_rows_of_other_lengths(self):
        for n in range(2, 7):
            for length in range(21):
                if length != n:
                    self.check((begin(n), [n]), (at(1, [3] * length), [-1]), (at(1, [3] * n), [1]))

    def test_a_row_of_another_length_changes_nothing(self):
        for length in (0, 1, 3, 20):
            self.check_refused([begin(2), at(1, [1, 2])], at(2, [3] * length), [-1], 2)


class Moments(CallsCase):
    def test_not_behind_the_last_accepted(self):
        calls = [begin(2), accept(5, 50, 500, [1, 2])]
        for moment in ((5, 50, 500), (5, 50, 499), (5, 49, 999), (4, 99, 999), (0, 0, 0)):
            self.check_refused(calls, accept(moment[0], moment[1], moment[2], [1, 2]), [-3], 2)

    def test_behind_the_last_accepted(self):
        for moment in ((5, 50, 501), (5, 51, 0), (6, 0, 0), (99, 99, 999)):
            call = accept(moment[0], moment[1], moment[2], [1, 2])
            self.check((begin(2), [2]), (accept(5, 50, 500, [1, 2]), [1]), (call, [2]))

    def test_the_end_of_a_block_and_of_a_run(self):
        self.check(
            (begin(2), [2]), (accept(5, 98, 999, [1, 2]), [1]), (accept(5, 99, 0, [1, 2]), [2]),
            (accept(5, 99, 999, [1, 2]), [3]), (accept(6, 0, 0, [1, 2]), [4]), (accept(5, 99, 999, [1, 2]), [-3]),
        )

    def test_the_last_moment_there_is(self):
        last_one = accept(99, 99, 999, [1, 2])
        self.check((begin(2), [2]), (last_one, [1]), (last_one, [-3]))

    def test_a_wrong_number_is_told_ahead_of_the_moment(self):
        self.check((begin(2), [2]), (at(9, [1, 2]), [1]), (at(9, [1, 2, 3]), [-1]), (at(8, [1, 10000]), [-1]))


class Busy(CallsCase):
    def test_seven_beyond_the_credit(self):
        for n in (2, 6):
            calls = seven_accepted(n)
            self.check_last(calls, [7])
            self.check_last(calls + [at(8, row_of(8, n))], [0])
            self.check_last(calls + [at(8, row_of(8, n)), at(8, row_of(8, n))], [0])

    def test_a_dead_one_is_only_counted(self):
        calls = seven_accepted(2)
        dead = calls + [at(8, [1, 2])] * 3
        self.assertEqual(words_under_way(dead, 30), words_under_way(calls, 30))
        acceptor = house_behind(dead).acceptor
        self.assertEqual((acceptor.newest, acceptor.credit, acceptor.dead), (7, 0, 3))
        self.assertEqual(house_behind(calls).acceptor.dead, 0)

    def test_a_credit_ends_it(self):
        # 15 is the credit for number 1.
        calls = seven_accepted(2) + [arrive(1), arrive(2)]
        self.check_last(calls + [at(8, [1, 2])], [0])
        calls = calls + [arrive(15)]
        self.check_last(calls, [2, 2, 1, 0])
        self.check_last(calls + [at(8, [1, 2])], [8])
        self.check_last(calls + [at(8, [1, 2]), at(9, [1, 2])], [0])

    def test_a_dead_moment_is_not_the_last_accepted(self):
        calls = seven_accepted(2) + [at(500, [1, 2]), arrive(1), arrive(2), arrive(15)]
        self.check_last(calls + [at(8, [1, 2])], [8])

    def test_moment_and_numbers_are_told_ahead_of_busy(self):
        calls = seven_accepted(2)
        for call, answer in ((at(7, [1, 2]), [-3]), (at(8, [1]), [-1]), (at(1000, [1, 2]), [-1])):
            self.check_refused(calls, call, answer, 2)
            self.assertEqual(house_behind(calls + [call]).acceptor.dead, 0)

    def test_busy_is_told_ahead_of_too_many_words(self):
        # 14 fragments and 86 twins.
        calls = seven_accepted(2) + [double(14)] * 86
        self.check_last(calls + [double(14)], [-8])
        self.check_last(calls + [at(8, [1, 2])], [0])

    def test_words_do_not_age_by_a_dead_one(self):
        # Words of number 1 would go with the ninth accepted; here all behind the seventh are dead.
        calls = seven_accepted(2) + [at(8, [1, 2])] * 9
        self.assertTrue(is_under_way(calls, 1))


class Sixty(CallsCase):
    def test_one_more_than_sixty(self):
        calls = settled_rounds(2, 8) + accepts(2, 57, 61)
        self.check_last(calls, [60])
        self.check_refused(calls, at(61, [1, 2]), [-8], 2, most=6)

    def test_moment_is_told_ahead_of_sixty(self):
        calls = settled_rounds(2, 8) + accepts(2, 57, 61)
        self.check_last(calls + [at(60, [1, 2])], [-3])

    def test_busy_is_told_ahead_of_sixty(self):
        # Seven rounds have 147 words; 50 to 56 are sent as 148 to 161, and the
        # credits for 50 to 53 as 162 to 165.
        calls = settled_rounds(2, 7) + accepts(2, 50, 57) + arrives(148, 156) + [arrive(165)]
        calls += accepts(2, 57, 61)
        self.check_last(calls, [60])
        self.check_last(calls + [at(61, [1, 2])], [0])


class Hundred(CallsCase):
    def test_just_a_hundred_words(self):
        for n in range(2, 7):
            calls = [begin(n), at(1, [1] * n)] + [double(1)] * (100 - 2 * n)
            self.check_last(calls + [at(2, [1] * n)], [2])
            self.check_last(calls + [at(2, [1] * n), double(1)], [-8])

    def test_one_more(self):
        for n in (2, 6):
            calls = [begin(n), at(1, [1] * n)] + [double(1)] * (101 - 2 * n)
            self.check_refused(calls, at(2, [1] * n), [-8], n, most=4)
            self.check_last(calls + [lose(50), at(2, [1] * n)], [2])

    def test_moment_is_told_ahead_of_a_hundred(self):
        calls = [begin(2), at(1, [1, 2])] + [double(1)] * 98
        self.check_last(calls + [at(1, [1, 2])], [-3])
        self.check_last(calls + [at(2, [1, 2, 3])], [-1])

    def test_words_that_this_crossing_ends_are_counted(self):
        # 8 accepted, 1 and 2 settled, and twins of 1: the ninth crossing ends these.
        calls = [begin(2)] + accepts(2, 1, 8) + [double(1)] + arrives(1, 5)
        # Under way: fragments 5 to 14, the twin 15, the credits 16 and 17.
        calls += [arrive(17), at(8, [1, 2])]
        # And 18 and 19: 14 words, the credit 17 is gone.
        self.assertEqual([w for w, kind in words_under_way(calls, 30)], list(range(5, 17)) + [18, 19])
        full = calls + [double(15)] * 85
        self.check_last(full, [104])
        self.check_refused(full, at(9, [1, 2]), [-8], 2, most=4)
        fits = calls + [double(15)] * 84 + [at(9, [1, 2])]
        self.check_last(fits, [9])
        # All 85 twins of number 1 are gone.
        self.check_last(fits + [double(18)] * 85, [190])
        self.check_last(fits + [double(18)] * 86, [-8])


class Ageing(CallsCase):
    def test_a_fragment_seven_and_eight_less_than_the_newest(self):
        calls = [begin(2)] + accepts(2, 1, 8) + [double(1), double(3)] + arrives(1, 5) + [arrive(18)]
        # 15 and 16 are twins of fragments of 1 and 2, 17 and 18 the credits for 1 and 2.
        seven = calls + [at(8, [1, 2])]
        self.check_last(seven, [8])
        self.assertTrue(is_under_way(seven, 15))
        self.check_last(seven + [arrive(15)], [0, 1, 1, 0])
        eight = seven + [at(9, [1, 2])]
        self.check_last(eight, [9])
        for call in (arrive(15), lose(15), double(15), garble(15)):
            self.check_last(eight + [call], [-5])
        self.assertTrue(is_under_way(eight, 16))

    def test_a_fragment_sent_again_is_as_old_as_its_crossing(self):
        # ask behind seven: credit 15, questions 16 and 17, which make fragments 18 and 19 of number 1.
        calls = [begin(2)] + accepts(2, 1, 8) + [ask(), arrive(16), arrive(17)] + arrives(1, 5)
        calls += [arrive(21), at(8, [1, 2])]
        self.assertTrue(is_under_way(calls, 18))
        calls += [at(9, [1, 2])]
        self.assertFalse(is_under_way(calls, 18))
        self.assertFalse(is_under_way(calls, 19))

    def test_a_garbled_fragment_ages_too(self):
        calls = [begin(2)] + accepts(2, 1, 8) + [double(1), garble(15)] + arrives(1, 5)
        calls += [arrive(17), at(8, [1, 2])]
        self.check_last(calls + [arrive(15)], [0, 0, 0, 0])
        self.check_last(calls + [at(9, [1, 2]), arrive(15)], [-5])

    def aged(self, more):
        """Asked ahead of all (1: a credit, 2 and 3: questions), and behind that so many are accepted."""
        calls = [begin(2), ask()] + accepts(2, 1, 8)
        # The fragments are 4 to 17, the credit for number 1 is 18.
        return calls + [arrive(4), arrive(5), arrive(18)] + accepts(2, 8, 8 + more)

    def test_a_question_and_a_credit_behind_seven_and_eight_accepted(self):
        calls = self.aged(0)
        self.assertEqual([w for w in (1, 2, 3) if is_under_way(calls, w)], [1, 2, 3])
        self.check_last(calls + [arrive(1)], [2, 1, 0, 0])
        self.check_last(calls + [arrive(2)], [1, 2, 1, 0])
        calls = self.aged(1)
        self.check_last(calls, [8])
        self.assertEqual([w for w in (1, 2, 3) if is_under_way(calls, w)], [])

    def test_a_doubled_one_counts_as_sent_when_the_other_one_was(self):
        calls = [begin(2), ask()] + accepts(2, 1, 8) + [double(1), double(2), garble(2), double(2)]
        # The twins are 18, 19 and 20, the credit for number 1 is 21.
        calls += [arrive(4), arrive(5), arrive(21)]
        self.assertEqual([w for w in (1, 2, 3, 18, 19, 20) if is_under_way(calls, w)], [1, 2, 3, 18, 19, 20])
        calls += [at(8, [1, 2])]
        self.assertEqual([w for w in (1, 2, 3, 18, 19, 20) if is_under_way(calls, w)], [])

    def test_a_twin_of_a_twin(self):
        calls = [begin(2), ask(), at(1, [1, 2]), double(2)] + [at(2, [1, 2]), double(6)]
        # 6 is the twin of 2, 9 the twin of 6.
        calls += accepts(2, 3, 8) + [arrive(4), arrive(5), arrive(20)]
        self.assertTrue(is_under_way(calls, 9))
        self.check_last(calls + [at(8, [1, 2])], [8])
        self.assertFalse(is_under_way(calls + [at(8, [1, 2])], 9))

    def test_a_question_lives_from_its_sending_on(self):
        # Asked behind the first accepted one: it lives one crossing longer.
        calls = [begin(2), at(1, [1, 2]), ask()] + accepts(2, 2, 8)
        # Asked as 3 (credit), 4 and 5; number 2 is sent as 6 and 7; the credits for 1 and 2 are 18 and 19.
        calls += [arrive(1), arrive(2), arrive(6), arrive(7), arrive(19), at(8, [1, 2])]
        self.assertEqual([w for w in (3, 4, 5) if is_under_way(calls, w)], [3, 4, 5])
        calls += [at(9, [1, 2])]
        self.check_last(calls, [9])
        self.assertEqual([w for w in (3, 4, 5) if is_under_way(calls, w)], [])
