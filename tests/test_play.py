"""The call play."""

from tests.helper import (
    CallsCase, FAR, acceptor, accepts, answers_of, arrive, arrives, ask, at, begin, double, event, events, fuse,
    garble, give_up, journal, lose, made, open_numbers, play, row_of, settled_rounds, source, wipe, words,
)


class Range(CallsCase):
    def test_its_ends(self):
        self.check((begin(2), [2]), (play(0), [0, 1]), (play(1000), [0, 1]), (play(-1), [-1]), (play(1001), [-1]))
        calls = [begin(2)] + accepts(2, 1, 3)
        self.check_last(calls + [play(0)], [0, 0])
        self.check_last(calls + [play(1000)], [6, 1])

    def test_just_outside(self):
        for k in (-FAR, -1, 1001, FAR):
            self.check_refused([begin(2)] + accepts(2, 1, 3) + [arrive(1), fuse(2)], play(k), [-1], 2)

    def test_none_is_done(self):
        calls = [begin(2)] + accepts(2, 1, 3)
        self.check_refused(calls, play(0), [0, 0], 2)
        self.check_refused(calls + [lose(w) for w in range(1, 5)], play(0), [0, 0], 2)


class Steps(CallsCase):
    def test_nothing_slips(self):
        # Each fragment is a step, and each number's credit.
        for n in range(2, 7):
            for newest in range(8):
                calls = [begin(n)] + accepts(n, 1, newest + 1) + [play(600)]
                self.check_last(calls, [newest * (n + 1), 1])
                self.check_all(calls, [
                    (made(), [newest] + list(range(1, newest + 1))), (acceptor(), [newest, newest, 0]), (words(), [0]),
                    (open_numbers(), [newest, newest, 0, 0]), (play(600), [0, 1]),
                ])

    def test_the_first_one_comes(self):
        # 3 is the credit of number 1, and 2 the last word of the crossing.
        calls = [begin(2)] + accepts(2, 1, 2)
        self.check_all(calls + [play(1)], [
            (words(), [1, 2, 0, 2, 1, 102, 0]), (journal(), [1, 0, 1, 1, 101]), (acceptor(), [1, 0, 0]),
        ])
        self.check_all(calls + [play(2)], [(words(), [1, 3, 2, 0, 1, 0, 0]), (made(), [1, 1]), (acceptor(), [1, 0, 0])])
        self.check_all(calls + [play(3)], [(words(), [0]), (acceptor(), [1, 1, 0])])
        self.check((begin(2), [2]), (at(1, [1, 2]), [1]), (play(1), [1, 0]), (play(1), [1, 0]), (play(1), [1, 1]),
                   (play(1), [0, 1]))

    def test_by_the_order_sent_and_not_by_numbers(self):
        # 1 is lost and 4 is its twin: the first one is 2.
        calls = [begin(3)] + accepts(3, 1, 2) + [double(1), lose(1), play(3)]
        self.check_last(calls, [3, 0])
        self.check_all(calls, [(journal(), [4, 0, 1, 2, 102, 0, 1, 3, 103, 0, 1, 1, 101, 1, 0])])

    def test_it_is_the_same_as_its_steps_one_by_one(self):
        calls = [begin(3)] + accepts(3, 1, 3) + [lose(2)]
        # 1 and 3 to 6 come; then the credit 7, the question 8, the fragment 9, which tells both, the credit 10.
        steps = [arrive(w) for w in (1, 3, 4, 5, 6)] + [ask()] + arrives(7, 11)
        for k in range(len(steps) + 1):
            shown = [words(), journal(), open_numbers(), acceptor()]
            self.assertEqual(answers_of(calls + [play(k)] + shown)[-4:], answers_of(calls + steps[:k] + shown)[-4:])
            self.check_last(calls + [play(k)], [k, 1 if k == len(steps) else 0])
        self.check_last(calls + [play(600)], [10, 1])

    def test_it_asks_when_none_is_under_way(self):
        # The ask, its credit, two questions, two fragments, the credit.
        calls = [begin(2)] + accepts(2, 1, 2) + [lose(1), lose(2)]
        self.check_last(calls + [play(1)], [1, 0])
        self.check_all(calls + [play(1)], [
            (words(), [3, 3, 2, 0, 0, 0, 0, 4, 1, 1, 1, 0, 0, 5, 1, 2, 1, 0, 0]), (open_numbers(), [0, 0, 1, 0]),
        ])
        self.check_last(calls + [play(6)], [6, 0])
        self.check_last(calls + [play(7)], [7, 1])
        self.check_last(calls + [play(1000)], [7, 1])

    def test_the_credit_does_not_say_so_yet(self):
        # All is settled, the credit 3 is lost: an ask, its credit, two questions for what isn't there.
        calls = [begin(2)] + accepts(2, 1, 2) + [arrive(1), arrive(2), lose(3)]
        self.check_last(calls + [play(0)], [0, 0])
        self.check_last(calls + [play(1)], [1, 0])
        self.check_last(calls + [play(2)], [2, 1])
        self.check_last(calls + [play(1000)], [4, 1])

    def test_words_that_are_under_way_come_though_all_is_settled(self):
        # 4 is a twin of the credit 3.
        calls = [begin(2)] + accepts(2, 1, 2) + [arrive(1), arrive(2), double(3), arrive(3)]
        self.check_last(calls + [play(0)], [0, 1])
        self.check_last(calls + [play(1000)], [1, 1])
        self.check_all(calls + [play(1000)], [(words(), [0])])

    def test_a_given_up_number_is_settled(self):
        calls = [begin(2)] + accepts(2, 1, 2) + [lose(2), arrive(1), wipe(2)] + [ask()] * 3 + [give_up()]
        # Three credits, three questions, the last credit.
        self.check_last(calls + [play(1000)], [7, 1])
        self.check_all(calls + [play(1000)], [(made(), [0]), (events(), [1, 1, 2]), (event(1), [2, 101, -1])])

    def test_nothing_accepted_but_asked(self):
        # A credit and two questions are under way, and come.
        self.check((begin(2), [2]), (ask(), [2]), (play(0), [0, 1]), (play(2), [2, 1]), (play(1000), [1, 1]))

    def test_it_accepts_nothing_and_counts_no_dead_one(self):
        calls = [begin(2)] + accepts(2, 1, 8) + [at(8, [1, 2]), play(1000)]
        self.check_last(calls, [21, 1])
        self.check_all(calls, [(acceptor(), [7, 7, 1])])
        self.check_last(calls + [at(8, [1, 2])], [8])


class Slips(CallsCase):
    def test_garbled(self):
        # Both come, can't be read, and are asked for.
        calls = [begin(2)] + accepts(2, 1, 2) + [garble(1), garble(2), play(1000)]
        self.check_last(calls, [9, 1])
        self.check_all(calls, [(event(1), [1, 101, 102])])

    def test_doubled(self):
        calls = [begin(2)] + accepts(2, 1, 2) + [double(1), double(2), double(1)]
        self.check_last(calls + [play(5)], [5, 0])
        self.check_last(calls + [play(1000)], [6, 1])
        self.check_all(calls + [play(1000)], [(journal(), [3, 0, 1, 1, 101, 0, 1, 2, 102, 1, 0])])

    def test_old_ones(self):
        # The twins 15 and 16 of number 1 and the ask's 17 to 19 come when eight are accepted.
        calls = [begin(2)] + accepts(2, 1, 8) + [double(1), double(2), ask()] + arrives(1, 5)
        calls += [arrive(21), at(8, [81, 82])]
        # Two questions for number 1 are answered still: two fragments more. 20 is the credit of 1.
        self.check_last(calls + [play(1000)], [10 + 2 + 3 + 1 + 2 + 2 + 6, 1])
        self.check_all(calls + [play(1000)], [
            (made(), [8] + list(range(1, 9))), (event(1), [1, 101, 102]), (event(8), [1, 81, 82]),
        ])

    def test_counters_came_round(self):
        # 14 are settled, the credits 36 to 41 of 8 to 13 are under way; 15 and 18 are lost.
        calls = settled_rounds(2, 2) + accepts(2, 15, 22) + [lose(w) for w in (43, 44, 49, 50)]
        calls += [garble(45), double(52), play(600)]
        self.assertEqual(answers_of(calls)[-1][1], 1)
        self.check_all(calls, [(made(), [21] + list(range(1, 22))), (acceptor(), [21, 21, 0]), (words(), [0])])
        self.check_all(calls, [(event(a), [1] + row_of(a, 2)) for a in range(15, 22)])

    def test_sources_lost_what_is_not_told(self):
        # Once the fragment 2 came, it's three steps each time: the ask, its credit, its question.
        calls = [begin(2)] + accepts(2, 1, 2) + [lose(1), wipe(1)]
        self.check_last(calls + [play(1000)], [1000, 0])
        self.check_all(calls + [play(1000)], [
            (open_numbers(), [0, 1, 333, 1, 1, 1]), (journal(), [1, 0, 1, 2, 102]), (events(), [0]), (words(), [0]),
            (acceptor(), [1, 0, 0]), (source(1), [0]),
        ])
        self.check_last(calls + [play(1000), play(1000)], [1000, 0])
        # 1000 more begin with an ask and end with one.
        self.check_all(calls + [play(1000), play(1000)], [(open_numbers(), [0, 1, 667, 1, 1, 1])])
        given_up = calls + [play(1000), give_up(), play(1000)]
        self.check_last(given_up, [1, 1])
        self.check_all(given_up, [(event(1), [2, -1, 102])])

    def test_a_source_lost_what_the_builder_has(self):
        calls = [begin(2)] + accepts(2, 1, 2) + [arrive(1), lose(2), wipe(1), play(1000)]
        # The ask, its credit, one question, its fragment, the credit.
        self.check_last(calls, [5, 1])
        self.check_all(calls, [(event(1), [1, 101, 102])])

    def test_what_is_under_way_comes_though_its_source_lost_it(self):
        calls = [begin(2)] + accepts(2, 1, 3) + [wipe(1), wipe(2), play(1000)]
        self.check_last(calls, [6, 1])


class Power(CallsCase):
    # Two numbers of two sources: keep, keep, tell, credit; the same once more: eight in all.

    def test_the_fuse_goes_in_a_step_and_the_next_one_follows(self):
        calls = [begin(2)] + accepts(2, 1, 3)
        # Four fragments come in any case. 0 and 1: one of number 1 isn't kept, and asked for: an ask, a credit,
        # a question, a fragment that tells both, a credit. 2: 1 is told by the next fragment, two credits.
        # 3: the credit of 1 isn't sent. 4 and 5: the credit of 1, and one of number 2 is asked for.
        # 6: the ask tells 2. 7: the credit of 2 isn't sent. In both: an ask, a credit, two questions.
        in_all = {0: 4 + 5, 1: 4 + 5, 2: 4 + 2, 3: 4 + 1, 4: 5 + 5, 5: 5 + 5, 6: 5 + 4, 7: 5 + 4, 8: 6, 9: 6, -1: 6}
        for k in in_all:
            self.check_last(calls + [fuse(k), play(600)], [in_all[k], 1])
            self.check_all(calls + [fuse(k), play(600)], [
                (event(1), [1, 101, 102]), (event(2), [1, 201, 202]), (made(), [2, 1, 2]), (acceptor(), [2, 2, 0]),
            ])

    def test_it_is_not_answered_by_power(self):
        for k in range(10):
            for steps in range(12):
                answer = answers_of([begin(2)] + accepts(2, 1, 3) + [fuse(k), play(steps)])[-1]
                self.assertEqual(len(answer), 2)
                self.assertGreaterEqual(answer[0], 0)

    def test_what_was_done_stays(self):
        # The fragment 2 is kept, and power goes ahead of telling.
        calls = [begin(2)] + accepts(2, 1, 2) + [fuse(2), play(2)]
        self.check_last(calls, [2, 0])
        self.check_all(calls, [
            (journal(), [2, 0, 1, 1, 101, 0, 1, 2, 102]), (words(), [0]), (open_numbers(), [0, 1, 0, 1, 0]),
        ])

    def test_power_in_an_ask(self):
        # The credit alone is sent, and the ask doesn't count; then it asks anew.
        calls = [begin(2)] + accepts(2, 1, 2) + [lose(1), lose(2), fuse(1)]
        self.check_last(calls + [play(1)], [1, 0])
        self.check_all(calls + [play(1)], [(words(), [1, 3, 2, 0, 0, 0, 0]), (open_numbers(), [0, 0, 0, 0])])
        self.check_last(calls + [play(600)], [2 + 7, 1])

    def test_what_is_left_of_the_fuse(self):
        # Four are burnt by the crossing; an ask behind it wants three more.
        calls = [begin(2)] + accepts(2, 1, 2)
        for k in (4, 5, 6):
            self.check_last(calls + [fuse(k), play(600), ask()], [-20])
        self.check_last(calls + [fuse(7), play(600), ask()], [2])
        self.check_last(calls + [fuse(7), play(600), ask(), ask()], [-20])

    def test_no_fuse_any_more_behind_it(self):
        calls = [begin(2)] + accepts(2, 1, 2) + [fuse(3), play(600)]
        # Power goes ahead of the credit: an ask, its credit, two questions.
        self.check_last(calls, [2 + 4, 1])
        self.check_last(calls + [ask(), ask(), ask(), ask()], [2])


class Plays(CallsCase):
    def test_ten_on_one_line(self):
        pairs = [(begin(2), [2])]
        for k in range(10):
            pairs += [(at(a, row_of(a, 2)), [a]) for a in range(6 * k + 1, 6 * k + 7)]
            pairs.append((play(600), [18, 1]))
        pairs += [(made(), [60] + list(range(1, 61))), (acceptor(), [60, 60, 0]), (at(61, [1, 2]), [-8])]
        self.check(*pairs)

    def test_ten_thousand_steps_without_end(self):
        calls = [begin(6)] + accepts(6, 1, 8) + [lose(w) for w in range(1, 43)] + [wipe(z) for z in range(1, 7)]
        # Each time eight steps: the ask, its credit, six questions.
        given = answers_of(calls + [play(1000)] * 10 + [open_numbers(), words(), journal()])
        self.assertEqual(given[-13:-3], [[1000, 0]] * 10)
        self.assertEqual(given[-3:], [[0, 0, 1250, 0], [0], [0]])
