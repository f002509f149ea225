"""The calls on an object that holds a part, and their answers."""

from coursenumbers.counting import Counts
from coursenumbers.courses import MOST_MESSAGES, path_of, read_course
from coursenumbers.faults import Fault
from coursenumbers.forms import course_form
from coursenumbers.loading import part_of
from coursenumbers.ranking import course_of, rank_of

NO_REFUSAL = 0
NO_PART = -1
NOT_THERE = -2
TOO_GREAT = -3
NO_COURSE = -4
GOES_NOT = -5
NO_RANK = -6

LOAD = 0
SHOWN = 1
SIZE = 2
TOTAL = 3
RANK = 4
COURSE = 5
LATER = 6


class UnknownCall(ValueError):
    pass


# A course as a text tells it: a refusal, or its messages and the branches by which they come.
class Told:
    def __init__(self, refusal, messages, path):
        self.refusal = refusal
        self.messages = messages
        self.path = path


class Teller:
    def __init__(self):
        self.counts = None

    def load(self, text):
        try:
            part = part_of(text)
        except Fault as fault:
            return [0, fault.code, fault.place]
        self.counts = Counts(part)
        return [1]

    def shown(self):
        if self.counts is None:
            return [NO_PART]
        return counted(self.counts.part.form)

    def size(self, i, j):
        refusal = self.state_refusal(i)
        if refusal != NO_REFUSAL:
            return [refusal]
        branches = self.counts.part.states[i].branches
        if j < 0 or j >= len(branches):
            return [NOT_THERE]
        if branches[j].many >= self.counts.limit:
            return [TOO_GREAT]
        return [branches[j].many]

    def total(self, i, n):
        refusal = self.number_refusal(i, n)
        if refusal != NO_REFUSAL:
            return [refusal]
        return [self.counts.total(i, n)]

    def rank(self, i, text):
        told = self.told_course(i, text)
        if told.refusal != NO_REFUSAL:
            return [told.refusal]
        return [rank_of(self.counts, i, told.messages, told.path)]

    def course(self, i, n, r):
        refusal = self.number_refusal(i, n)
        if refusal != NO_REFUSAL:
            return [refusal]
        return self.course_answer(i, n, r)

    def later(self, i, k, text):
        told = self.told_course(i, text)
        if told.refusal != NO_REFUSAL:
            return [told.refusal]
        rank = rank_of(self.counts, i, told.messages, told.path)
        return self.course_answer(i, len(told.messages), rank + k)

    def course_answer(self, i, n, r):
        if r < 0 or r >= self.counts.total(i, n):
            return [NO_RANK]
        return counted(course_form(course_of(self.counts, i, n, r)))

    def state_refusal(self, i):
        if self.counts is None:
            return NO_PART
        if i < 0 or i >= len(self.counts.part.states):
            return NOT_THERE
        return NO_REFUSAL

    def number_refusal(self, i, n):
        refusal = self.state_refusal(i)
        if refusal != NO_REFUSAL:
            return refusal
        if n < 0 or n > MOST_MESSAGES:
            return NOT_THERE
        return self.total_refusal(i, n)

    def total_refusal(self, i, n):
        if self.counts.total(i, n) >= self.counts.limit:
            return TOO_GREAT
        return NO_REFUSAL

    def told_course(self, i, text):
        refusal = self.state_refusal(i)
        if refusal != NO_REFUSAL:
            return Told(refusal, [], [])
        try:
            messages = read_course(text)
        except Fault:
            return Told(NO_COURSE, [], [])
        path = path_of(self.counts.part, i, messages)
        if len(path) < len(messages):
            return Told(GOES_NOT, [], [])
        return Told(self.total_refusal(i, len(messages)), messages, path)


def counted(told):
    return [len(told)] + told


# The numbers that are handed in, taken one behind another.
class Feed:
    def __init__(self, calls):
        self.calls = calls
        self.at = 0

    def is_done(self):
        return self.at >= len(self.calls)

    def one(self):
        taken = self.calls[self.at]
        self.at += 1
        return taken

    def row(self):
        length = self.one()
        taken = self.calls[self.at:self.at + length]
        self.at += length
        return taken


def answers(calls):
    teller = Teller()
    feed = Feed(calls)
    told = []
    while not feed.is_done():
        told.extend(counted(answer_of(teller, feed)))
    return told


def answer_of(teller, feed):
    call = feed.one()
    if call == LOAD:
        return teller.load(feed.row())
    if call == SHOWN:
        return teller.shown()
    if call < LOAD or call > LATER:
        raise UnknownCall(f"no call has the number {call}")
    i = feed.one()
    if call == RANK:
        return teller.rank(i, feed.row())
    second = feed.one()
    if call == SIZE:
        return teller.size(i, second)
    if call == TOTAL:
        return teller.total(i, second)
    if call == COURSE:
        return teller.course(i, second, feed.one())
    return teller.later(i, second, feed.row())
