"""The calls ask and giveUp."""

from tests.helper import (
    CallsCase, accepts, arrive, arrives, ask, at, begin, double, fuse, give_up, house_behind, lose,
    settled_rounds, wipe, words_under_way,
)


class Ask(CallsCase):
    def test_how_many_questions(self):
        for n in range(2, 7):
            pairs = [(begin(n), [n]), (ask(), [n]), (at(1, [4] * n), [1])]
            # One credit and n questions are sent ahead of the fragments.
            for k in range(1, n):
                pairs += [(arrive(n + 1 + k), [0, 2, 1, 0]), (ask(), [n - k])]
            self.check(*pairs)

    def test_one_credit_and_then_the_questions(self):
        calls = [begin(3), at(1, [1, 2, 3]), arrive(2), ask()]
        self.assertEqual(words_under_way(calls, 12), [(1, 0), (3, 0), (4, 2), (5, 1), (6, 1)])

    def test_the_credit_is_sent_always_of_what_is_settled(self):
        calls = [begin(2), at(1, [1, 2]), arrive(1), arrive(2), lose(3), ask()]
        self.check_last(calls, [2])
        self.check_last(calls + [arrive(4)], [2, 2, 1, 0])
        self.check_last(calls + [ask(), arrive(4), arrive(7)], [2, 1, 1, 0])

    def test_only_the_next_number_is_asked_for(self):
        # 1 lacks source 2; 2 lacks both; 3 lacks source 1.
        calls = [begin(2)] + accepts(2, 1, 4) + [arrive(1), arrive(6), ask()]
        self.check_last(calls, [1])
        self.assertEqual(words_under_way(calls, 16), [(2, 0), (3, 0), (4, 0), (5, 0), (7, 2), (8, 1)])
        self.check_last(calls + [arrive(8)], [1, 2, 1, 0])

    def test_what_lacks_comes_at_last(self):
        self.check(
            (begin(2), [2]), (at(1, [1, 2]), [1]), (lose(1), [0]), (arrive(2), [0, 2, 1, 0]), (ask(), [1]),
            (arrive(4), [1, 2, 1, 0]), (arrive(5), [0, 2, 1, 1]), (arrive(6), [2, 2, 1, 0]),
        )

    def test_what_is_due_is_told_first(self):
        # Power goes behind the keeping: 1 and 2 are whole then, and not told.
        calls = [begin(2)] + accepts(2, 1, 4) + arrives(2, 5) + [fuse(1), arrive(1)]
        self.check_last(calls, [-20])
        calls += [ask()]
        # The credit 7 of number 2, the questions 8 and 9 for number 3.
        self.check_last(calls, [2])
        self.assertEqual(words_under_way(calls, 16), [(5, 0), (6, 0), (7, 2), (8, 1), (9, 1)])
        self.check_last(calls + [arrive(7)], [2, 2, 2, 0])
        self.check_last(calls + [arrive(9)], [1, 2, 3, 0])
        self.assertEqual(house_behind(calls).builder.told, [(), ()])

    def test_all_sixty_settled(self):
        calls = settled_rounds(2, 8) + accepts(2, 57, 61) + arrives(169, 177) + [ask()]
        # 57 to 60 are sent as 169 to 176, their credits as 177 to 180, then a credit, then two questions.
        self.check_last(calls, [2])
        self.check_last(calls + [arrive(182)], [1, 1, 61, 0])

    def test_a_hundred_words(self):
        for n in (2, 6):
            calls = [begin(n), at(1, [1] * n)] + [double(1)] * (100 - n - n - 1)
            self.check_last(calls + [ask()], [n])
            self.check_last(calls + [ask(), double(1)], [-8])
            self.check_refused(calls + [double(1)], ask(), [-8], n, most=4)

    def test_room_for_all_sources_is_asked_for_though_fewer_lack(self):
        # 2 comes, so 98 words are under way: a credit and the one question would have room.
        calls = [begin(2), at(1, [1, 2])] + [double(1)] * 97 + [arrive(2)]
        self.check_refused(calls, ask(), [-8], 2, most=4)
        self.check_last(calls + [lose(9), ask()], [1])

    def test_a_refused_one_burns_nothing(self):
        calls = [begin(2), at(1, [1, 2])] + [double(1)] * 98 + [fuse(0), ask()]
        self.check_last(calls, [-8])
        self.check_last(calls + [lose(3), lose(4), lose(5), ask()], [-20])


def lacking_one(asks, more=()):
    """Number 1 lacks source 2, whose fragment 2 is late; asked so often."""
    return [begin(2), at(1, [11, 12]), arrive(1)] + list(more) + [ask()] * asks


class GiveUp(CallsCase):
    def test_asked_two_and_three_times(self):
        for asks in (0, 1, 2):
            self.check_refused(lacking_one(asks), give_up(), [-6], 2)
        for asks in (3, 4, 10):
            self.check_last(lacking_one(asks) + [give_up()], [1, 1])

    def test_it_is_told_as_lacking_once(self):
        calls = lacking_one(3) + [give_up()]
        self.assertEqual(house_behind(calls).builder.journal, [(0, 1, 1, 11), (1, (2,))])
        self.check_refused(calls, give_up(), [-6], 2)

    def test_one_credit_is_sent(self):
        # Three times a credit and a question: 3 to 8. The new credit is 9.
        calls = lacking_one(3) + [give_up()]
        self.assertEqual(words_under_way(calls, 16)[-2:], [(8, 1), (9, 2)])
        self.check_last(calls + [arrive(9)], [2, 2, 1, 0])

    def test_all_sources_lack(self):
        for n in (2, 6):
            # Number 2 is heard of by its first fragment, n + 1.
            calls = [begin(n)] + accepts(n, 1, 3) + [arrive(n + 1)] + [ask()] * 3 + [give_up()]
            self.check_last(calls, [1, n])
            self.assertEqual(house_behind(calls).builder.told, [tuple(range(1, n + 1))])

    def test_the_sources_that_lack_are_named(self):
        calls = [begin(5), at(1, [1, 2, 3, 4, 5]), arrive(4), arrive(1)] + [ask()] * 3 + [give_up()]
        self.check_last(calls, [1, 3])
        self.assertEqual(house_behind(calls).builder.told, [(2, 3, 5)])

    def test_not_heard_of(self):
        self.check_refused([begin(2)] + [ask()] * 3, give_up(), [-6], 2)
        self.check_refused([begin(2), at(1, [1, 2])] + [ask()] * 3, give_up(), [-6], 2)
        settled = [begin(2)] + accepts(2, 1, 3) + arrives(1, 3) + [ask()] * 3
        self.check_refused(settled, give_up(), [-6], 2)
        self.check_last(settled + [arrive(3), give_up()], [2, 1])

    def test_it_is_due(self):
        # The last fragment is kept, power goes, and number 1 is whole and not told.
        calls = lacking_one(3) + [fuse(1), arrive(2)]
        self.check_last(calls, [-20])
        self.check_refused(calls, give_up(), [-6], 2)
        self.assertEqual(house_behind(calls).builder.asked, 3)

    def test_numbers_due_behind_it(self):
        # 1 lacks source 2; 2 and 3 are whole; 4 lacks source 1.
        calls = [begin(2)] + accepts(2, 1, 5) + [arrive(w) for w in (1, 3, 4, 5, 6, 8)] + [ask()] * 3
        self.check_last(calls, [1])
        # Asked: 9 to 14. The credit behind giveUp is 15, the only one.
        calls += [give_up()]
        self.check_last(calls, [1, 1])
        self.assertEqual(words_under_way(calls, 20)[-1], (15, 2))
        self.check_last(calls + [arrive(15)], [2, 2, 3, 0])
        self.assertEqual(house_behind(calls).builder.told, [(2,), (), ()])
        # Asked is counted anew for number 4.
        self.check_last(calls + [ask(), ask(), give_up()], [-6])
        self.check_last(calls + [ask(), ask(), ask(), give_up()], [4, 1])

    def test_number_four_is_whole_and_three_lacks(self):
        # 1 is given up; 2 is due; 3 lacks and stops what is told.
        calls = [begin(2)] + accepts(2, 1, 5) + [arrive(w) for w in (1, 3, 4, 7, 8)] + [ask()] * 3 + [give_up()]
        self.check_last(calls, [1, 1])
        self.assertEqual(house_behind(calls).builder.told, [(2,), ()])

    def test_counted_from_the_last_telling_on(self):
        # Asked three times for 1, which comes then; 2 is heard of and wasn't asked for.
        calls = lacking_one(3, [at(2, [21, 22]), arrive(3)]) + [arrive(2)]
        self.check_last(calls, [0, 2, 1, 1])
        self.check_refused(calls, give_up(), [-6], 2)
        self.check_last(calls + [ask(), ask(), give_up()], [-6])
        self.check_last(calls + [ask(), ask(), ask(), give_up()], [2, 1])

    def test_an_ask_that_tells_counts_for_what_it_asks(self):
        # Power leaves 1 whole and not told; the first ask tells it and asks for 2.
        calls = lacking_one(2, [at(2, [21, 22]), arrive(3)]) + [fuse(1), arrive(2), ask()]
        self.check_last(calls, [1])
        self.check_last(calls + [ask(), give_up()], [-6])
        self.check_last(calls + [ask(), ask(), give_up()], [2, 1])

    def test_a_kept_fragment_does_not_change_the_count(self):
        calls = [begin(3), at(1, [1, 2, 3]), arrive(1)] + [ask()] * 3 + [arrive(2)]
        self.check_last(calls + [give_up()], [1, 1])

    def test_an_ask_in_which_power_went_does_not_count(self):
        for k in (0, 1):
            calls = lacking_one(2) + [fuse(k), ask()]
            self.check_last(calls, [-20])
            self.check_refused(calls, give_up(), [-6], 2)
            self.check_last(calls + [ask(), give_up()], [1, 1])

    def test_power_leaves_the_count_as_it_is(self):
        calls = lacking_one(3) + [fuse(0), ask()]
        self.check_last(calls, [-20])
        self.check_last(calls + [give_up()], [1, 1])
        calls = lacking_one(3) + [fuse(0), arrive(2)]
        self.check_last(calls, [-20])
        self.check_last(calls + [give_up()], [1, 1])

    def test_an_ask_whose_fuse_just_lasts_counts(self):
        calls = lacking_one(2) + [fuse(2), ask()]
        self.check_last(calls, [1])
        self.check_last(calls + [fuse(-1), give_up()], [1, 1])

    def test_wipe_does_not_matter(self):
        self.check_last(lacking_one(3) + [wipe(1), wipe(2), give_up()], [1, 1])

    def test_a_hundred_words(self):
        # Under way: the fragment 2, three credits and three questions.
        calls = lacking_one(3) + [double(2)] * 92
        self.check_last(calls + [give_up()], [1, 1])
        self.check_last(calls + [double(2), give_up()], [-8])
        self.check_refused(calls + [double(2)], give_up(), [-8], 2, most=8)

    def test_that_it_cannot_be_is_told_ahead_of_a_hundred(self):
        # Under way: the fragment 2, two credits and two questions.
        calls = lacking_one(2) + [double(2)] * 95
        self.check_last(calls + [double(2)], [-8])
        self.check_last(calls + [give_up()], [-6])

    def test_a_refused_one_burns_nothing(self):
        calls = lacking_one(2) + [fuse(0), give_up()]
        self.check_last(calls, [-6])
        self.check_last(calls + [ask()], [-20])
