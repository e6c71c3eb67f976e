"""The words under way between sources, builder and acceptor."""

from fragmentbuilder.counters import counter_of

FRAGMENT = 0
QUESTION = 1
CREDIT = 2

UNREADABLE = 0
NOTHING_DONE = 1
DONE = 2

NO_SOURCE = 0
MOST_WORDS = 100
LIFE = 7


class Word:
    def __init__(self, kind, source, counter, value, born):
        self.kind = kind
        self.source = source
        self.counter = counter
        self.value = value
        # The accepted crossing from which on its life is counted.
        self.born = born
        self.readable = True


class Lines:
    def __init__(self):
        # By their numbers, which rise, so the dict's order is the order sent.
        self.words = {}
        self.sent = 0
        self.accepted = 0

    def has_room(self, more):
        return len(self.words) + more <= MOST_WORDS

    def is_empty(self):
        return len(self.words) == 0

    def first_sent(self):
        return min(self.words)

    def send(self, word):
        self.sent += 1
        self.words[self.sent] = word
        return self.sent

    def send_fragment(self, source, number, value):
        # However late it is sent, a fragment is as old as its crossing.
        self.send(Word(FRAGMENT, source, counter_of(number), value, number))

    def send_question(self, source, number):
        self.send(Word(QUESTION, source, counter_of(number), 0, self.accepted))

    def send_credit(self, number):
        self.send(Word(CREDIT, NO_SOURCE, counter_of(number), 0, self.accepted))

    def send_twin(self, word):
        # The twin is as old as the other one: were it younger, it could
        # outlive the round of the counters.
        twin = Word(word.kind, word.source, word.counter, word.value, word.born)
        twin.readable = word.readable
        return self.send(twin)

    def take_off(self, w):
        return self.words.pop(w)

    def pass_crossing(self):
        self.accepted += 1
        for w in list(self.words):
            if self.accepted - self.words[w].born > LIFE:
                self.words.pop(w)
