"""Taking a part from its text: its names are looked at behind its grammar."""

from coursenumbers.faults import FORM_TOO_LONG, HANDS_WORKER, NAMED_BEFORE, NO_SUCH_STATE, SAME_SEATS, Fault
from coursenumbers.forms import part_form
from coursenumbers.lexing import LONGEST_TEXT
from coursenumbers.parts import STOP, read_part


def part_of(text):
    part = read_part(text)
    numbers = state_numbers(part)
    check_names(part, numbers)
    for state in part.states:
        link(state, numbers)
    part.form = part_form(part)
    if len(part.form) > LONGEST_TEXT:
        raise Fault(FORM_TOO_LONG, 0)
    return part


def state_numbers(part):
    numbers = {}
    for number, state in enumerate(part.states):
        numbers[state.name.content] = number
    return numbers


def check_names(part, numbers):
    check_state_name(part.start, numbers)
    earlier = {}
    for state in part.states:
        check_new(state.name, earlier)
        check_seats(state)
        check_branches(state, part.worker, numbers)


def check_state_name(name, numbers):
    if name.content not in numbers:
        raise Fault(NO_SUCH_STATE, name.place)


def check_new(name, earlier):
    if name.content in earlier:
        raise Fault(NAMED_BEFORE, name.place)
    earlier[name.content] = True


def check_seats(state):
    if state.deed != STOP and state.first.content == state.second.content:
        raise Fault(SAME_SEATS, state.second.place)


def check_branches(state, worker, numbers):
    earlier = {}
    for branch in state.branches:
        check_new(branch.label, earlier)
        check_handed(branch.handed, worker)
        check_state_name(branch.target, numbers)


def check_handed(seats, worker):
    earlier = {}
    for seat in seats:
        if seat.content == worker.content:
            raise Fault(HANDS_WORKER, seat.place)
        check_new(seat, earlier)


def link(state, numbers):
    for branch in state.branches:
        branch.goal = numbers[branch.target.content]
    state.by_label = sorted(state.branches, key=label_of)


def label_of(branch):
    return branch.label.content
