"""The calls begin, wipe and fuse, and what is refused ahead of begin."""

from tests.helper import (
    CallsCase, FAR, accept, arrive, ask, at, begin, double, fuse, garble, give_up, house_behind, lose, wipe,
)


class Begin(CallsCase):
    def test_two_to_six_sources(self):
        for n in range(2, 7):
            self.check((begin(n), [n]), (at(1, [5] * n), [1]))

    def test_other_numbers_of_sources(self):
        for n in (-FAR, -1, 0, 1, 7, 8, FAR):
            self.check((begin(n), [-1]))
            self.check_refused([], begin(n), [-1], 3)

    def test_a_refused_begin_leaves_it_open_to_begin(self):
        self.check((begin(7), [-1]), (ask(), [-4]), (begin(3), [3]), (ask(), [3]))

    def test_begun_already(self):
        for n in (2, 3, 6):
            self.check_refused([begin(3), at(1, [1, 2, 3])], begin(n), [-6], 3)

    def test_begun_already_is_told_ahead_of_a_wrong_number(self):
        for n in (-FAR, 1, 7, FAR):
            self.check((begin(2), [2]), (begin(n), [-6]))


class NotBegun(CallsCase):
    def test_each_call_but_begin_and_fuse(self):
        for call in (accept(0, 0, 0, [1, 2]), arrive(1), lose(1), double(1), garble(1), ask(), give_up(), wipe(1)):
            self.check_refused([], call, [-4], 2)

    def test_it_is_told_ahead_of_wrong_numbers_and_words(self):
        wrong = (
            accept(100, 0, 0, [1, 2]), accept(0, 0, 0, []), arrive(-FAR), lose(FAR), double(0), garble(9),
            wipe(0), wipe(7), wipe(FAR),
        )
        for call in wrong:
            self.check((call, [-4]))


class Wipe(CallsCase):
    def test_the_newest_number_is_answered(self):
        self.check(
            (begin(2), [2]), (wipe(1), [0]), (at(1, [1, 2]), [1]), (wipe(2), [1]), (at(2, [3, 4]), [2]),
            (wipe(2), [2]), (wipe(1), [2]),
        )

    def test_sources_that_are_not_there(self):
        for n in (2, 6):
            for z in (-FAR, -1, 0, n + 1, FAR):
                self.check_refused([begin(n), at(1, [1] * n)], wipe(z), [-1], n)

    def test_the_last_source(self):
        for n in range(2, 7):
            self.check((begin(n), [n]), (wipe(n), [0]), (wipe(n + 1), [-1]))

    def test_only_that_source_loses_its_words(self):
        # ask sends the credit 4 and the questions 5, 6 and 7.
        self.check(
            (begin(3), [3]), (at(1, [1, 2, 3]), [1]), (ask(), [3]), (wipe(2), [1]),
            (arrive(5), [1, 2, 1, 0]), (arrive(6), [1, 1, 1, 0]), (arrive(7), [1, 2, 1, 0]),
        )

    def test_it_has_words_of_later_crossings(self):
        # Behind the wipe number 1 is told, from fragments under way; then 2 is asked for.
        self.check(
            (begin(2), [2]), (at(1, [1, 2]), [1]), (wipe(1), [1]), (at(2, [3, 4]), [2]),
            (arrive(1), [0, 2, 1, 0]), (arrive(2), [0, 2, 1, 1]), (ask(), [2]),
            (arrive(7), [1, 2, 2, 0]), (arrive(9), [0, 2, 2, 0]),
        )

    def test_fragments_under_way_are_not_touched(self):
        self.check(
            (begin(2), [2]), (at(1, [1, 2]), [1]), (wipe(1), [1]), (wipe(2), [1]),
            (arrive(1), [0, 2, 1, 0]), (arrive(2), [0, 2, 1, 1]),
        )

    def test_the_builder_is_not_touched(self):
        self.check((begin(2), [2]), (fuse(0), [0]), (wipe(1), [0]), (ask(), [-20]))


class Fuse(CallsCase):
    def test_its_range(self):
        for k in range(-1, 10):
            self.check((begin(2), [2]), (fuse(k), [0]))
        for k in (-FAR, -3, -2, 10, 11, FAR):
            self.check_refused([begin(2), at(1, [1, 2]), fuse(2)], fuse(k), [-1], 2)

    def test_it_may_come_ahead_of_begin(self):
        self.check((fuse(0), [0]), (ask(), [-4]), (begin(2), [2]), (ask(), [-20]), (ask(), [2]))

    def test_a_wrong_one_ahead_of_begin(self):
        self.check((fuse(10), [-1]), (fuse(-2), [-1]), (begin(2), [2]), (ask(), [2]))

    def test_the_last_one_holds(self):
        self.check((begin(2), [2]), (fuse(0), [0]), (fuse(9), [0]), (ask(), [2]))
        self.check((begin(2), [2]), (fuse(9), [0]), (fuse(0), [0]), (ask(), [-20]))

    def test_none(self):
        self.check((begin(2), [2]), (fuse(0), [0]), (fuse(-1), [0]), (ask(), [2]), (ask(), [2]))

    def test_it_is_kept_as_it_is_set(self):
        for k in range(-1, 10):
            self.assertEqual(house_behind([fuse(k)]).builder.fuse, k)
