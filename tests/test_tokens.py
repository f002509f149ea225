import unittest

from coursenumbers.courses import read_course
from coursenumbers.faults import Fault
from coursenumbers.lexing import NUMBER, QUOTED, SIGN, WORD, tokens_of

KINDS = {WORD: "word", NUMBER: "number", QUOTED: "quoted", SIGN: "sign"}


def tokens(text):
    return [(KINDS[t.kind], t.content, t.place) for t in tokens_of(list(text.encode("latin-1")))[:-1]]


def fault(text):
    try:
        tokens(text)
    except Fault as e:
        return (e.code, e.place)
    return None


class Blanks(unittest.TestCase):
    def test_blanks_separate_and_mean_nothing(self):
        self.assertEqual(tokens(" \t\na \n b"), [("word", "a", 3), ("word", "b", 7)])

    def test_none_at_all(self):
        self.assertEqual(tokens(""), [])
        self.assertEqual(tokens(" # only this"), [])

    def test_remark_up_to_the_line_feed(self):
        self.assertEqual(tokens('a# " \\ \x00 \xff -0\nb'), [("word", "a", 0), ("word", "b", 14)])

    def test_remark_up_to_the_end(self):
        self.assertEqual(tokens("a #"), [("word", "a", 0)])
        self.assertEqual(tokens("a # b # c"), [("word", "a", 0)])

    def test_byte_13_is_no_blank(self):
        self.assertEqual(fault("a\r\nb"), (2, 1))
        self.assertEqual(tokens("a #\rb\nc"), [("word", "a", 0), ("word", "c", 6)])

    def test_end_has_the_place_of_the_length(self):
        for text in ["", "a", "a  ", "a # b"]:
            self.assertEqual(tokens_of(list(text.encode()))[-1].place, len(text))


class Words(unittest.TestCase):
    def test_letters_and_digits(self):
        self.assertEqual(tokens("AZaz09 b"), [("word", "AZaz09", 0), ("word", "b", 7)])
        every = "ABCDEFGHIJKLM NOPQRSTUVWXYZ abcdefghijklm nopqrstuvwxyz a0123456789"
        self.assertEqual([t[1] for t in tokens(every)], every.split())

    def test_16_bytes_and_17(self):
        self.assertEqual(tokens("a" * 16), [("word", "a" * 16, 0)])
        self.assertEqual(fault(" " + "a" * 17), (2, 1))
        self.assertEqual(fault(" b2345678901234567 "), (2, 1))

    def test_bytes_beside_letters_are_none(self):
        for sign in "@`~/_.&'+*^$%><\\\x00\x7f\x80\xe4\xff":
            self.assertEqual(fault("ab" + sign), (2, 2), sign)


class Numbers(unittest.TestCase):
    def test_numbers(self):
        self.assertEqual(tokens("0 7 -7 10 -10"), [
            ("number", 0, 0), ("number", 7, 2), ("number", -7, 4), ("number", 10, 7), ("number", -10, 10)])

    def test_bounds(self):
        self.assertEqual(tokens("1000000000 -1000000000"), [
            ("number", 1000000000, 0), ("number", -1000000000, 11)])
        for text in ["1000000001", "-1000000001", "9999999999", "10000000000", "9" * 4000, "-" + "9" * 4000]:
            self.assertEqual(fault("a " + text), (2, 2))

    def test_no_zero_before_others(self):
        for text in ["00", "007", "-0", "-00", "-01", "01", "00000000000"]:
            self.assertEqual(fault("  " + text + " a"), (2, 2), text)

    def test_a_minus_wants_a_digit(self):
        for text in ["-", "- 1", "--1", "-a", "-<"]:
            self.assertEqual(fault(" " + text), (2, 1), text)

    def test_side_by_side(self):
        self.assertEqual(tokens("12ab"), [("number", 12, 0), ("word", "ab", 2)])
        self.assertEqual(tokens("a-1"), [("word", "a", 0), ("number", -1, 1)])
        self.assertEqual(tokens("1-1"), [("number", 1, 0), ("number", -1, 1)])
        self.assertEqual(tokens("<-1"), [("sign", "<-", 0), ("number", 1, 2)])
        self.assertEqual(fault("-1>"), (2, 2))


class Signs(unittest.TestCase):
    def test_signs(self):
        signs = "={}()[],;:!?|"
        self.assertEqual(tokens(signs), [("sign", s, k) for k, s in enumerate(signs)])
        self.assertEqual(tokens("a->b<-c"), [
            ("word", "a", 0), ("sign", "->", 1), ("word", "b", 3), ("sign", "<-", 4), ("word", "c", 6)])

    def test_halves_are_none(self):
        for text in ["<", "< -", ">", "<a", "<>", "- >"]:
            self.assertEqual(fault(" " + text), (2, 1), text)


class Quoted(unittest.TestCase):
    def test_bytes_stand_for_themselves(self):
        every = bytes(b for b in range(256) if b not in b'"\\\n')
        told = tokens('a"' + every[:200].decode("latin-1") + '"b')
        self.assertEqual(told, [("word", "a", 0), ("quoted", tuple(every[:200]), 1), ("word", "b", 203)])
        self.assertEqual(tokens('"' + every[200:].decode("latin-1") + '"')[0][1], tuple(every[200:]))

    def test_escapes(self):
        self.assertEqual(tokens('"\\"\\\\\\n\\x00\\xff\\x0a\\x9a\\xa9"'),
                         [("quoted", (34, 92, 10, 0, 255, 10, 0x9a, 0xa9), 0)])
        for byte in range(256):
            self.assertEqual(tokens(f'"\\x{byte:02x}"'), [("quoted", (byte,), 0)])

    def test_wrong_escapes(self):
        for inner in ["\\", "\\a", "\\N", "\\X41", "\\x4", "\\x", "\\xA0", "\\x0A", "\\xg0", "\\x0g", "\\x1g",
                      "\\xf ", "\\xg1", "\\xF1", "\\x1F", "\\x`0",
                      "\\x:0", "\\x/0", "\\t", "\\'", "\\\n", "a\nb", "\n"]:
            self.assertEqual(fault(' "' + inner + '" '), (2, 1), inner)

    def test_no_closing_quote(self):
        for text in ['"', '"a', '"a\\"', '"\\', '"\\x', '"\\x4', '"\\x41', '"\\n', '"# a\n"']:
            self.assertEqual(fault("  " + text), (2, 2), text)

    def test_255_bytes_and_256(self):
        self.assertEqual(tokens('"' + "a" * 255 + '"'), [("quoted", (97,) * 255, 0)])
        self.assertEqual(tokens('"' + "\\x61" * 255 + '"'), [("quoted", (97,) * 255, 0)])
        self.assertEqual(fault(' "' + "a" * 256 + '"'), (2, 1))
        self.assertEqual(fault(' "' + "\\x61" * 256 + '"'), (2, 1))

    def test_empty(self):
        self.assertEqual(tokens('""""'), [("quoted", (), 0), ("quoted", (), 2)])


class Length(unittest.TestCase):
    def test_4096_bytes_and_4097(self):
        self.assertEqual(tokens(" " * 4095 + "a"), [("word", "a", 4095)])
        self.assertEqual(fault(" " * 4097), (1, 4096))
        self.assertEqual(fault("\x00" * 4097), (1, 4096))
        self.assertEqual(fault("\x00" * 8192), (1, 4096))
        self.assertEqual(fault(" " * 4095 + "\x00"), (2, 4095))

    def test_of_a_course_too(self):
        with self.assertRaises(Fault) as caught:
            read_course([32] * 4097)
        self.assertEqual((caught.exception.code, caught.exception.place), (1, 4096))
        self.assertEqual(read_course([32] * 4096), [])


if __name__ == "__main__":
    unittest.main()
