"""The tokens of a text of bytes, each with its place."""

from coursenumbers.faults import NO_TOKEN, TOO_LONG, Fault

LONGEST_TEXT = 4096
LONGEST_WORD = 16
LONGEST_QUOTED = 255
GREATEST_NUMBER = 1000000000
MOST_DIGITS = 10

WORD = 1
NUMBER = 2
QUOTED = 3
SIGN = 4
END = 5

LINE_FEED = 10
QUOTE = 34
HASH = 35
MINUS = 45
ZERO = 48
BACKSLASH = 92
SMALL_N = 110
SMALL_X = 120
BLANKS = (32, 9, 10)

DIGITS = "0123456789"
GREAT_LETTERS = "ABCDEFGHIJKLMNOPQRSTUVWXYZ"
SMALL_LETTERS = "abcdefghijklmnopqrstuvwxyz"

ONE_BYTE_SIGNS = {
    61: "=", 123: "{", 125: "}", 40: "(", 41: ")", 91: "[", 93: "]",
    44: ",", 59: ";", 58: ":", 33: "!", 63: "?", 124: "|",
}
TWO_BYTE_SIGNS = {(45, 62): "->", (60, 45): "<-"}


# The content is a text for a word or a sign, a whole number for a number,
# a tuple of bytes for a quoted text. So unlike kinds never have equal contents.
class Token:
    def __init__(self, kind, content, place, behind):
        self.kind = kind
        self.content = content
        self.place = place
        self.behind = behind


def tokens_of(text):
    if len(text) > LONGEST_TEXT:
        raise Fault(TOO_LONG, LONGEST_TEXT)
    tokens = []
    place = past_blanks(text, 0)
    while place < len(text):
        token = token_at(text, place)
        tokens.append(token)
        place = past_blanks(text, token.behind)
    tokens.append(Token(END, "", len(text), len(text)))
    return tokens


def past_blanks(text, place):
    while place < len(text) and (text[place] in BLANKS or text[place] == HASH):
        if text[place] == HASH:
            place = line_end(text, place)
        else:
            place += 1
    return place


def line_end(text, place):
    while place < len(text) and text[place] != LINE_FEED:
        place += 1
    return place


def token_at(text, place):
    if is_letter(text[place]):
        return word_at(text, place)
    if is_digit(text[place]):
        return number_at(text, place, place)
    if text[place] == MINUS and place + 1 < len(text) and is_digit(text[place + 1]):
        return number_at(text, place, place + 1)
    if text[place] == QUOTE:
        return quoted_at(text, place)
    return sign_at(text, place)


def is_letter(byte):
    return 65 <= byte <= 90 or 97 <= byte <= 122


def is_digit(byte):
    return 48 <= byte <= 57


def word_at(text, place):
    behind = place
    while behind < len(text) and (is_letter(text[behind]) or is_digit(text[behind])):
        behind += 1
    if behind - place > LONGEST_WORD:
        raise Fault(NO_TOKEN, place)
    word = "".join([character_of(byte) for byte in text[place:behind]])
    return Token(WORD, word, place, behind)


def character_of(byte):
    if byte >= 97:
        return SMALL_LETTERS[byte - 97]
    if byte >= 65:
        return GREAT_LETTERS[byte - 65]
    return DIGITS[byte - ZERO]


def number_at(text, place, first_digit):
    behind = first_digit
    while behind < len(text) and is_digit(text[behind]):
        behind += 1
    digits = text[first_digit:behind]
    negative = first_digit > place
    if not is_number(digits, negative):
        raise Fault(NO_TOKEN, place)
    amount = amount_of(digits)
    return Token(NUMBER, -amount if negative else amount, place, behind)


# The digits are counted first, so that no long row of them is ever reckoned up.
def is_number(digits, negative):
    if len(digits) > MOST_DIGITS:
        return False
    if digits[0] == ZERO:
        return len(digits) == 1 and not negative
    return amount_of(digits) <= GREATEST_NUMBER


def amount_of(digits):
    amount = 0
    for digit in digits:
        amount = amount * 10 + digit - ZERO
    return amount


def quoted_at(text, place):
    told = []
    behind = place + 1
    while behind < len(text) and text[behind] != QUOTE:
        byte = quoted_byte(text, behind)
        if byte < 0:
            raise Fault(NO_TOKEN, place)
        told.append(byte)
        behind += quoted_width(text, behind)
    if behind >= len(text) or len(told) > LONGEST_QUOTED:
        raise Fault(NO_TOKEN, place)
    return Token(QUOTED, tuple(told), place, behind + 1)


# The byte that is told at a place between quotes, or -1 if none can be told so.
def quoted_byte(text, place):
    if text[place] == LINE_FEED:
        return -1
    if text[place] != BACKSLASH:
        return text[place]
    if place + 1 >= len(text):
        return -1
    letter = text[place + 1]
    if letter == QUOTE or letter == BACKSLASH:
        return letter
    if letter == SMALL_N:
        return LINE_FEED
    if letter == SMALL_X and place + 3 < len(text):
        return hex_byte(text[place + 2], text[place + 3])
    return -1


def hex_byte(first, second):
    high = hex_digit(first)
    low = hex_digit(second)
    if high < 0 or low < 0:
        return -1
    return high * 16 + low


def hex_digit(byte):
    if is_digit(byte):
        return byte - ZERO
    if 97 <= byte <= 102:
        return byte - 87
    return -1


def quoted_width(text, place):
    if text[place] != BACKSLASH:
        return 1
    if text[place + 1] == SMALL_X:
        return 4
    return 2


def sign_at(text, place):
    pair = tuple(text[place:place + 2])
    if pair in TWO_BYTE_SIGNS:
        return Token(SIGN, TWO_BYTE_SIGNS[pair], place, place + 2)
    if text[place] in ONE_BYTE_SIGNS:
        return Token(SIGN, ONE_BYTE_SIGNS[text[place]], place, place + 1)
    raise Fault(NO_TOKEN, place)
