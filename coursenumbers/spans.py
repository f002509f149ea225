"""Ranges and the values that fit them: how many there are, and their order."""

from coursenumbers.packing import packed_number, unpacked_number

FLAG = "flag"
NUM = "num"
TEXT = "text"


# A range. Truths are counted as 0 and 1, so the bounds of a flag are these;
# the bounds of a text are those of its length.
class Span:
    def __init__(self, kind, least, most):
        self.kind = kind
        self.least = least
        self.most = most


# The content of a truth is 0 or 1, of a text a tuple of bytes.
class Value:
    def __init__(self, kind, content):
        self.kind = kind
        self.content = content


def fits(span, value):
    if span.kind != value.kind:
        return False
    if span.kind == TEXT:
        return len(value.content) <= span.most
    return span.least <= value.content <= span.most


def value_count(span):
    if span.kind == TEXT:
        return text_count(span.most)
    return span.most - span.least + 1


# How many texts have at most so many bytes: 1 + 256 + 256 * 256 and so on.
def text_count(longest):
    count = 0
    for length in range(longest + 1):
        count = count * 256 + 1
    return count


# How many unlike rows of values there are, one value for each range.
def message_count(spans):
    count = 1
    for span in spans:
        count *= value_count(span)
    return count


# How many values that fit the range come before this one.
def value_place(span, value):
    if span.kind == TEXT:
        return text_place(value.content)
    return value.content - span.least


def text_place(content):
    return text_count(len(content) - 1) + unpacked_number(content)


def value_at(span, place):
    if span.kind == TEXT:
        return Value(TEXT, text_at(place))
    return Value(span.kind, span.least + place)


def text_at(place):
    length = 0
    as_long = 1
    while place >= as_long:
        place -= as_long
        as_long *= 256
        length += 1
    return tuple(packed_number(place, length))
