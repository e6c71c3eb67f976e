"""The acceptor: it numbers crossings, as far as its credit allows."""

from fragmentbuilder.counters import number_for
from fragmentbuilder.lines import DONE, NOTHING_DONE

MOST_BEYOND = 7
MOST_ACCEPTED = 60
BEFORE_ALL = -1


class Acceptor:
    def __init__(self):
        self.newest = 0
        self.credit = 0
        self.dead = 0
        self.last_moment = BEFORE_ALL

    def is_busy(self):
        return self.newest - self.credit >= MOST_BEYOND

    def is_full(self):
        return self.newest >= MOST_ACCEPTED

    def count_dead(self):
        self.dead += 1

    def accept(self, moment):
        self.newest += 1
        self.last_moment = moment
        return self.newest

    def take_credit(self, counter):
        number = number_for(counter, self.newest)
        if number <= self.credit:
            return [NOTHING_DONE, number, 0]
        self.credit = number
        return [DONE, number, 0]
