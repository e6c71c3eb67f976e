"""All twenty calls in long lists, beside a second telling of the house that the lines can't mislead.

In the model each word carries the number that it truly is of, not its counter; and
the builder is made anew from its journal each time something is asked of it. Where
the program answers the same, no word was taken for another crossing's.
"""

import random
import unittest

from fragmentbuilder.house import answers
from tests.helper import (
    accept, acceptor, answers_of, arrive, ask, begin, double, event, events, flat, fuse, garble, give_up, journal,
    lose, made, number, open_numbers, play, source, split, wipe, words,
)

FRAGMENT, QUESTION, CREDIT = 0, 1, 2


class Model:
    def __init__(self):
        self.n = 0
        self.crossings = []
        self.lost = {}
        self.credit = 0
        self.dead = 0
        self.under_way = []
        self.sent = 0
        self.journal = []
        self.asked = 0
        self.fuse = -1

    # What the journal makes.

    def told(self):
        return [writing[1] for writing in self.journal if writing[0] == 1]

    def kept(self):
        return {writing[1:3]: writing[3] for writing in self.journal if writing[0] == 0}

    def settled(self):
        return len(self.told())

    def heard(self):
        return max([0, self.settled()] + [a for a, z in self.kept()])

    def lacking(self, a, more=()):
        kept = self.kept()
        return tuple(z for z in range(1, self.n + 1) if (a, z) not in kept and (a, z) not in more)

    def due(self, settled, more=()):
        a = settled + 1
        while not self.lacking(a, more):
            a += 1
        return list(range(settled + 1, a))

    # What is done, as a row of writings and sendings.

    def newest(self):
        return len(self.crossings)

    def send(self, kind, z, a, value):
        self.sent += 1
        self.under_way.append({"w": self.sent, "kind": kind, "z": z, "a": a, "value": value,
                               "since": self.newest(), "garbled": 0})

    def do(self, deeds):
        goes = self.fuse != -1 and len(deeds) > self.fuse
        for deed in deeds[:self.fuse] if goes else deeds:
            if deed[0] == "write":
                self.journal.append(deed[1])
                if deed[1][0] == 1:
                    self.asked = 0
            else:
                self.send(*deed[1])
        if goes:
            self.fuse = -1
        elif self.fuse != -1:
            self.fuse -= len(deeds)
        return not goes

    def with_w(self, w):
        fitting = [word for word in self.under_way if word["w"] == w]
        return fitting[0] if fitting else None

    def all_settled(self):
        return self.settled() == self.newest() == self.credit

    # The calls.

    def call(self, call):
        name = NAMES[call[0]]
        if not self.n and name not in ("begin", "fuse", "number", "journal"):
            return [-4]
        if self.n and name == "begin":
            return [-6]
        given = call[1:]
        if name == "accept":
            given = call[1:4] + [call[5:]]
        return getattr(self, "call_" + name)(*given)

    def call_begin(self, n):
        if n not in (2, 3, 4, 5, 6):
            return [-1]
        self.n = n
        return [n]

    def call_accept(self, run, block, crossing, row):
        if run not in range(100) or block not in range(100) or crossing not in range(1000):
            return [-1]
        if len(row) != self.n or [value for value in row if value not in range(10000)]:
            return [-1]
        moment = (run, block, crossing)
        if self.crossings and moment <= self.crossings[-1][0]:
            return [-3]
        if self.newest() == self.credit + 7:
            self.dead += 1
            return [0]
        if self.newest() == 60 or len(self.under_way) + self.n > 100:
            return [-8]
        self.crossings.append((moment, row))
        self.under_way = [word for word in self.under_way if self.lives(word)]
        for z in range(1, self.n + 1):
            self.send(FRAGMENT, z, self.newest(), row[z - 1])
        return [self.newest()]

    def lives(self, word):
        return self.newest() - (word["a"] if word["kind"] == FRAGMENT else word["since"]) <= 7

    def call_arrive(self, w):
        word = self.with_w(w)
        if not word:
            return [-5]
        self.under_way.remove(word)
        if word["garbled"]:
            return [word["kind"], 0, 0, 0]
        return [self.fragment_comes, self.question_comes, self.credit_comes][word["kind"]](word)

    def fragment_comes(self, word):
        a, z = word["a"], word["z"]
        if a <= self.settled() or (a, z) in self.kept():
            return [FRAGMENT, 1, a, 0]
        due = self.due(self.settled(), [(a, z)])
        deeds = [("write", (0, a, z, word["value"]))] + [("write", (1, ()))] * len(due)
        if due:
            deeds.append(("send", (CREDIT, 0, due[-1], 0)))
        return [FRAGMENT, 2, a, len(due)] if self.do(deeds) else [-20]

    def question_comes(self, word):
        a, z = word["a"], word["z"]
        if a > self.newest() or a <= self.lost.get(z, 0) or self.newest() - a > 7:
            return [QUESTION, 1, a, 0]
        self.send(FRAGMENT, z, a, self.crossings[a - 1][1][z - 1])
        return [QUESTION, 2, a, 0]

    def credit_comes(self, word):
        if word["a"] <= self.credit:
            return [CREDIT, 1, word["a"], 0]
        self.credit = word["a"]
        return [CREDIT, 2, word["a"], 0]

    def call_lose(self, w):
        word = self.with_w(w)
        if not word:
            return [-5]
        self.under_way.remove(word)
        return [0]

    def call_double(self, w):
        word = self.with_w(w)
        if not word:
            return [-5]
        if len(self.under_way) == 100:
            return [-8]
        self.sent += 1
        self.under_way.append(dict(word, w=self.sent))
        return [self.sent]

    def call_garble(self, w):
        word = self.with_w(w)
        if not word:
            return [-5]
        word["garbled"] = 1
        return [0]

    def call_ask(self):
        if len(self.under_way) + self.n + 1 > 100:
            return [-8]
        due = self.due(self.settled())
        settled = self.settled() + len(due)
        lacking = self.lacking(settled + 1)
        deeds = [("write", (1, ()))] * len(due) + [("send", (CREDIT, 0, settled, 0))]
        deeds += [("send", (QUESTION, z, settled + 1, 0)) for z in lacking]
        if not self.do(deeds):
            return [-20]
        self.asked += 1
        return [len(lacking)]

    def call_give_up(self):
        a = self.settled() + 1
        if a > self.heard() or self.due(a - 1) or self.asked < 3:
            return [-6]
        if len(self.under_way) == 100:
            return [-8]
        lacking = self.lacking(a)
        due = self.due(a)
        deeds = [("write", (1, lacking))] + [("write", (1, ()))] * len(due)
        deeds.append(("send", (CREDIT, 0, a + len(due), 0)))
        return [a, len(lacking)] if self.do(deeds) else [-20]

    def call_wipe(self, z):
        if z not in range(1, self.n + 1):
            return [-1]
        self.lost[z] = self.newest()
        return [self.newest()]

    def call_fuse(self, k):
        if k not in range(-1, 10):
            return [-1]
        self.fuse = k
        return [0]

    def call_event(self, a):
        if a not in range(1, 61):
            return [-1]
        if a > self.settled():
            return [0]
        kept = self.kept()
        row = [-1 if z in self.told()[a - 1] else kept[(a, z)] for z in range(1, self.n + 1)]
        return [2 if -1 in row else 1] + row

    def call_events(self):
        return [self.settled()] + [one for lacking in self.told() for one in (len(lacking),) + lacking]

    def call_open(self):
        numbers = range(self.settled() + 1, self.heard() + 1)
        rows = [self.lacking(a) for a in numbers]
        head = [self.settled(), self.heard(), self.asked, len(numbers)]
        return head + [one for lacking in rows for one in (len(lacking),) + lacking]

    def call_words(self):
        rows = [[word["w"], word["kind"], word["z"], word["a"] % 16, word["value"], word["garbled"]]
                for word in self.under_way]
        return [len(rows)] + flat(rows)

    def call_acceptor(self):
        return [self.newest(), self.credit, self.dead]

    def call_source(self, z):
        if z not in range(1, self.n + 1):
            return [-1]
        numbers = list(range(self.lost.get(z, 0) + 1, self.newest() + 1))
        return [len(numbers)] + numbers

    def call_number(self, n, k):
        if n not in range(1001) or k not in range(16):
            return [-1]
        fitting = [a for a in range(max(1, n - 7), n + 9) if a % 16 == k]
        return [len(fitting)] + fitting

    def call_play(self, k):
        if k not in range(1001):
            return [-1]
        for step in range(k):
            if self.under_way:
                self.call_arrive(self.under_way[0]["w"])
            elif self.all_settled():
                return [step, 1]
            else:
                self.call_ask()
        return [k, 1 if self.all_settled() else 0]

    def call_journal(self):
        rows = [list(one) if one[0] == 0 else [1, len(one[1])] + list(one[1]) for one in self.journal]
        return [len(rows)] + flat(rows)

    def call_made(self):
        told = self.told()
        whole = [a for a in range(1, len(told) + 1) if not told[a - 1]]
        return [len(whole)] + whole


NAMES = (
    "begin", "accept", "arrive", "lose", "double", "garble", "ask", "give_up", "wipe", "fuse", "event", "events",
    "open", "words", "acceptor", "source", "number", "play", "journal", "made",
)

# How likely a crossing, a word's coming, a slip, a doubling, an ask or giving up, power, a report is; the rest is wild.
MOODS = (
    {"accept": 60, "arrive": 15, "slip": 5, "ask": 3, "power": 1, "report": 15, "rest": 2},
    {"accept": 25, "arrive": 45, "slip": 12, "ask": 6, "power": 3, "report": 8, "rest": 3},
    {"accept": 20, "arrive": 30, "slip": 20, "ask": 20, "power": 6, "report": 8, "rest": 3},
    {"accept": 15, "arrive": 20, "slip": 30, "ask": 12, "power": 2, "report": 10, "rest": 3},
    {"accept": 15, "arrive": 12, "twin": 55, "ask": 12, "power": 1, "report": 3, "rest": 2},
)
WILD = (-10 ** 18, -2, -1, 0, 1, 3, 7, 10, 16, 61, 1001, 10 ** 18)


class Lists:
    """A list of 200 calls by a seed, made beside a model so that the calls fit what is there."""

    def __init__(self, seed):
        self.chance = random.Random(seed)
        self.mood = MOODS[seed % 5]
        self.model = Model()
        self.moment = 0
        self.plays = 0
        self.calls = []
        self.expected = []
        for early in range(self.chance.randint(0, 4)):
            self.add(self.chance.choice([self.report(), self.rest(), ask(), fuse(self.chance.randint(-1, 9))]))
        self.add(begin(2 + seed // 5 % 5))
        while len(self.calls) < 200:
            self.add(self.next_call())

    def add(self, call):
        self.calls.append(call)
        self.expected.append(self.model.call(call))

    def some_word(self):
        under_way = self.model.under_way
        if not under_way:
            return self.chance.choice([0, 1, self.model.sent + 1])
        return self.chance.choice([under_way[0], under_way[-1], self.chance.choice(under_way)])["w"]

    def next_call(self):
        model = self.model
        # Play takes all off the lines: where words are to be many, it waits till they are.
        ready = len(model.under_way) >= 99 if "twin" in self.mood else model.newest() == model.credit + 7
        if ready and self.plays < 10 and self.chance.random() < 0.3:
            return self.play(self.chance.choice([0, 10, 60, 150, 150, 150, 300, 600]))
        kind = self.chance.choices(list(self.mood), list(self.mood.values()))[0]
        return getattr(self, kind)()

    def play(self, k):
        # A list has at most 10 of them, refused ones counted.
        if self.plays == 10:
            return made()
        self.plays += 1
        return play(k)

    def accept(self):
        self.moment += self.chance.choice([1, 1, 5, 999, 1000, 4000])
        moment = self.moment - (self.chance.random() < 0.03)
        row = [self.chance.choice([0, 9999, self.chance.randint(0, 9999)]) for z in range(self.model.n)]
        return accept(moment // 100000, moment // 1000 % 100, moment % 1000, row)

    def arrive(self):
        return arrive(self.some_word())

    def slip(self):
        return self.chance.choice([lose, double, double, garble])(self.some_word())

    def twin(self):
        return double(self.some_word())

    def ask(self):
        return self.chance.choice([ask(), ask(), ask(), give_up()])

    def power(self):
        return self.chance.choice([fuse(self.chance.randint(-1, 9))] * 4 + [wipe(self.chance.randint(1, 6))])

    def report(self):
        a = max(1, self.model.settled() - self.chance.randint(-1, 3))
        return self.chance.choice([
            event(a), events(), open_numbers(), words(), acceptor(), source(self.chance.randint(1, 6)),
            number(self.chance.randint(0, 70), self.chance.randint(0, 15)), journal(), made(),
        ])

    def rest(self):
        wild = [self.chance.choice(WILD) for place in range(3)]
        one = wild[0]
        if self.chance.random() < 0.1:
            return self.play(one)
        row = [self.chance.choice(WILD) for place in range(self.chance.randint(0, 20))]
        return self.chance.choice([
            begin(one), accept(wild[0], wild[1], wild[2], row), arrive(one), lose(one), double(one), garble(one),
            wipe(one), fuse(one), event(one), source(one), number(wild[0], wild[1]),
        ])


def groups_fill(answer, start, count, n):
    """So many groups, each a count and so many rising sources, end just where the answer ends."""
    place = start
    for group in range(count):
        many = answer[place]
        sources = answer[place + 1:place + 1 + many]
        if len(sources) != many or sources != sorted(set(sources)) or not set(sources) <= set(range(1, n + 1)):
            return False
        place += 1 + many
    return place == len(answer)


def journal_fills(answer):
    place = 1
    for writing in range(answer[0]):
        place += 4 if answer[place] == 0 else 2 + answer[place + 1]
    return place == len(answer)


REFUSED = {
    0: (-1, -6), 1: (-1, -3, -4, -8), 2: (-4, -5, -20), 3: (-4, -5), 4: (-4, -5, -8), 5: (-4, -5), 6: (-4, -8, -20),
    7: (-4, -6, -8, -20), 8: (-1, -4), 9: (-1,), 10: (-1, -4), 11: (-4,), 12: (-4,), 13: (-4,), 14: (-4,),
    15: (-1, -4), 16: (-1,), 17: (-1, -4), 18: (), 19: (-4,),
}
LENGTHS = {0: 1, 1: 1, 2: 4, 3: 1, 4: 1, 5: 1, 6: 1, 7: 2, 8: 1, 9: 1, 14: 3, 17: 2}


def form_is_right(call, answer, n):
    name = NAMES[call[0]]
    if answer[0] < 0:
        return len(answer) == 1 and answer[0] in REFUSED[call[0]]
    if call[0] in LENGTHS:
        return len(answer) == LENGTHS[call[0]]
    if name == "event":
        return answer == [0] or (answer[0] in (1, 2) and len(answer) == 1 + n and (-1 in answer) == (answer[0] == 2))
    if name == "events":
        return groups_fill(answer, 1, answer[0], n)
    if name == "open":
        return answer[3] == answer[1] - answer[0] and groups_fill(answer, 4, answer[3], n)
    if name == "words":
        return len(answer) == 1 + 6 * answer[0]
    if name == "journal":
        return journal_fills(answer)
    return len(answer) == 1 + answer[0]


class LongLists(unittest.TestCase):
    maxDiff = None
    made_lists = [Lists(seed) for seed in range(160)]

    def test_the_same_as_the_model(self):
        for seed, one in enumerate(self.made_lists):
            given = answers_of(one.calls)
            for place in range(len(one.calls)):
                self.assertEqual(given[place], one.expected[place], (seed, place, one.calls[place]))
            self.assertEqual(len(given), len(one.calls))

    def test_the_form(self):
        for one in self.made_lists:
            given = answers(flat(one.calls))
            self.assertTrue(all(type(number) is int for number in given))
            for call, answer in zip(one.calls, split(given)):
                self.assertTrue(form_is_right(call, answer, one.model.n), (call, answer))

    def test_what_is_handed_in_stays_and_is_answered_the_same(self):
        for one in self.made_lists:
            calls = flat(one.calls)
            before = list(calls)
            first = answers(calls)
            self.assertEqual(calls, before)
            self.assertEqual(answers(calls), first)
            self.assertEqual(calls, before)

    def test_what_is_told_stays(self):
        # Each journal begins with the one that was answered ahead of it.
        for one in self.made_lists:
            between = [call for each in one.calls[:100] for call in (each, journal())]
            written = []
            for answer in answers_of(between)[1::2]:
                self.assertEqual(answer[1:1 + len(written)], written)
                written = answer[1:]

    def test_the_lists_reach_what_they_are_there_for(self):
        for one in self.made_lists:
            self.assertEqual(len(one.calls), 200)
            self.assertLessEqual(len([call for call in one.calls if call[0] == 17]), 10)
            self.assertLessEqual(len(flat(one.calls)), 5400)
        self.assertGreater(len([one for one in self.made_lists if one.model.newest() == 60]), 10)
        self.assertGreater(len([told for one in self.made_lists for told in one.model.told() if told]), 20)
        self.assertGreater(sum(one.model.dead for one in self.made_lists), 100)

    def test_each_call_is_answered_and_refused_as_told(self):
        answered = [(call[0], answer[0]) for one in self.made_lists
                    for call, answer in zip(one.calls, answers_of(one.calls))]
        for call in range(20):
            self.assertGreater(len([first for other, first in answered if other == call and first >= 0]), 20, call)
            reached = {first for other, first in answered if other == call and first < 0}
            self.assertLessEqual(reached, set(REFUSED[call]), call)
        wanted = [(call, first) for call in REFUSED for first in REFUSED[call]]
        rare = [(7, -4), (7, -8)]
        self.assertEqual([pair for pair in wanted if pair not in answered and pair not in rare], [])
