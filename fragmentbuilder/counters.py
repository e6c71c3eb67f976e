"""A number's counter, and the number that a counter on a line stands for."""

COUNTERS = 16
NO_NUMBER = 0


def counter_of(number):
    return number % COUNTERS


def number_for(counter, top):
    # Sixteen numbers end with the top, so just one of them has this counter.
    number = top - (top - counter) % COUNTERS
    # Numbers begin with 1: under a low top a counter may stand for none.
    return number if number >= 1 else NO_NUMBER
