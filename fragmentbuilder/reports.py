"""The calls that only tell what a house holds: none of them changes anything."""

from fragmentbuilder.builder import KEPT, REACH, TOLD
from fragmentbuilder.counters import NO_NUMBER, number_for

NOT_SETTLED = 0
WHOLE = 1
LACKING = 2
NO_WORD = -1


def counted(numbers):
    return [len(numbers)] + list(numbers)


def event_of(house, given):
    builder = house.builder
    number = given[0]
    if number > builder.settled():
        return [NOT_SETTLED]
    state = LACKING if len(builder.told[number - 1]) > 0 else WHOLE
    return [state] + [builder.kept.get((number, source), NO_WORD) for source in range(1, builder.how_many + 1)]


def events_told(house, given):
    answer = [house.builder.settled()]
    for lacking in house.builder.told:
        answer.extend(counted(lacking))
    return answer


def open_numbers(house, given):
    builder = house.builder
    # What's heard of is open itself, as long as it isn't settled.
    numbers = list(range(builder.settled() + 1, builder.heard() + 1))
    answer = [builder.settled(), builder.heard(), builder.asked, len(numbers)]
    for number in numbers:
        answer.extend(counted(builder.lacking(number)))
    return answer


def words_under_way(house, given):
    words = house.lines.words
    answer = [len(words)]
    for w in words:
        word = words[w]
        answer.extend([w, word.kind, word.source, word.counter, word.value, 0 if word.readable else 1])
    return answer


def acceptor_now(house, given):
    return [house.acceptor.newest, house.acceptor.credit, house.acceptor.dead]


def source_words(house, given):
    return counted(house.sources.numbers_held(given[0]))


def number_of_counter(house, given):
    number = number_for(given[1], given[0] + REACH)
    return [0] if number == NO_NUMBER else [1, number]


def journal_so_far(house, given):
    answer = [len(house.builder.journal)]
    for writing in house.builder.journal:
        if writing[0] == KEPT:
            answer.extend(writing)
        else:
            answer.extend([TOLD] + counted(writing[1]))
    return answer


def made_whole(house, given):
    told = house.builder.told
    return counted([number for number in range(1, len(told) + 1) if len(told[number - 1]) == 0])


REPORTS = {
    10: event_of,
    11: events_told,
    12: open_numbers,
    13: words_under_way,
    14: acceptor_now,
    15: source_words,
    16: number_of_counter,
    18: journal_so_far,
    19: made_whole,
}


def is_report(call):
    return call in REPORTS


def report(house, call, given):
    action = REPORTS[call]
    return action(house, given)
