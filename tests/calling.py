"""Calls as lists of numbers, and their answers taken apart again."""

from coursenumbers.teller import answers

LIMIT = 10 ** 1000

BUYING = (
    "part Buying of Buyer\n"
    "start Ask\n"
    "Ask = send Buyer -> Shop { want(text 20, num 1 9) Price ; bye()[Key] Done }\n"
    "Price = recv Buyer <- Shop { price(num 0 500) Ask ; none() Ask }\n"
    "Done = stop\n"
)
PLAIN = "part P of A start S S = send A -> B { m(num 0 9, flag) S ; a(text 1) T } T = stop"


def row(text):
    if isinstance(text, str):
        text = text.encode("latin-1")
    return [len(text)] + list(text)


def load(text):
    return [0] + row(text)


def shown():
    return [1]


def size(i, j):
    return [2, i, j]


def total(i, n):
    return [3, i, n]


def rank(i, course):
    return [4, i] + row(course)


def course(i, n, r):
    return [5, i, n, r]


def later(i, k, text):
    return [6, i, k] + row(text)


def compare(i, first, second):
    return [7, i] + row(first) + row(second)


def share(i, n, j):
    return [8, i, n, j]


def width(i, n):
    return [9, i, n]


def pack(i, text):
    return [10, i] + row(text)


def unpack(i, n, packed):
    return [11, i, n] + row(packed)


def goes(i, text):
    return [12, i] + row(text)


def apart(told):
    parts = []
    at = 0
    while at < len(told):
        parts.append(told[at + 1:at + 1 + told[at]])
        if len(parts[-1]) != told[at]:
            raise ValueError("the last answer is cut short")
        at += 1 + told[at]
    return parts


def run(*calls):
    return apart(answers([number for call in calls for number in call]))


# The answers of calls on a part that is loaded first.
def on(text, *calls):
    told = run(load(text), *calls)
    if told[0] != [1]:
        raise ValueError(f"not a part: {told[0]}: {text!r}")
    return told[1:]


def many_on(text, calls, most_numbers=8400, most_calls=400):
    calls = list(calls)
    told = []
    while calls:
        room = most_numbers - len(load(text))
        batch = []
        while calls and len(batch) < most_calls - 1 and len(calls[0]) <= room:
            room -= len(calls[0])
            batch.append(calls.pop(0))
        told.extend(on(text, *batch))
    return told


def words_of(answer):
    if answer[0] != len(answer) - 1:
        raise ValueError(f"no counted bytes: {answer[:5]}")
    return bytes(answer[1:]).decode("latin-1")
