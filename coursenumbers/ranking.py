"""The rank of a course, and the course of a rank."""

from coursenumbers.courses import Message
from coursenumbers.spans import value_at, value_count, value_place


def rank_of(counts, number, messages, path):
    rank = 0
    left = len(messages)
    for message, branch in zip(messages, path):
        left -= 1
        rank += courses_before(counts, number, branch, left)
        rank += message_place(branch, message) * counts.total(branch.goal, left)
        number = branch.goal
    return rank


# How many courses begin with a lesser label and have so many messages behind it.
def courses_before(counts, number, branch, left):
    before = 0
    for other in counts.part.states[number].branches:
        if other.label.content < branch.label.content:
            before += counts.courses_by(other, left)
    return before


def message_place(branch, message):
    place = 0
    for span, value in zip(branch.spans, message.given):
        place = place * value_count(span) + value_place(span, value)
    return place


# The rank must be below the total: then a branch is found at every state.
def course_of(counts, number, length, rank):
    messages = []
    for left in range(length - 1, -1, -1):
        branch = branch_at(counts, number, left, rank)
        rank -= courses_before(counts, number, branch, left)
        behind = counts.total(branch.goal, left)
        messages.append(message_at(branch, rank // behind))
        rank = rank % behind
        number = branch.goal
    return messages


def branch_at(counts, number, left, rank):
    for branch in counts.part.states[number].by_label:
        share = counts.courses_by(branch, left)
        if rank < share:
            return branch
        rank -= share
    return None


def message_at(branch, place):
    backwards = []
    for span in reversed(branch.spans):
        many = value_count(span)
        backwards.append(value_at(span, place % many))
        place = place // many
    given = list(reversed(backwards))
    return Message(branch.label.content, given, [seat.content for seat in branch.handed])
