import unittest

from coursenumbers.courses import read_course, wrong_with
from coursenumbers.faults import Fault
from coursenumbers.loading import part_of
from tests.calling import on, rank
from tests.test_part_faults import RESERVED, marked

LOOSE = "part P of A start S S = send A -> B { a() S ; b(num 0 9) S }"
MIXED = ("part P of A start S S = send A -> B { a(flag, num -5 5, text 3)[K, L] S ; b() S ; c(num 1 2)[K] T } "
         "T = stop U = recv A <- B { a() U }")


def fault(text):
    try:
        read_course(list(text.encode("latin-1")))
    except Fault as e:
        return (e.code, e.place)
    return None


class CourseFaults(unittest.TestCase):
    def holds(self, text):
        self.assertIsNone(fault(text), text)

    def fails(self, code, text):
        plain, place = marked(text)
        self.assertEqual(fault(plain), (code, place), text)
        self.assertEqual(on(LOOSE, rank(0, plain)), [[-4]], text)

    def test_courses(self):
        for text in ["", "  # none\n", "a();", "a ( ) ;b(7);", 'a(true,false,-1,"\\"")[K,L];', "a(1)[A]; a()[K, K];"]:
            self.holds(text)

    def test_length_and_tokens(self):
        self.holds("a();" * 64 + " " * (4096 - 256))
        self.fails(1, "a();" * 64 + " " * (4096 - 256) + "^ ")
        self.fails(1, "\x00" * 4096 + "^\x00")
        self.fails(2, "= = = ^007")
        self.fails(2, 'a(); a(^"); a();')
        self.fails(2, "a();^\r")

    def test_grammar(self):
        for text in ["^;", "a^;", "a(^;", "a()^", "a()[K]^", "a() ^a();", "a(); ^;", "a(^,);", "a(1,^);", "a(1 ^2);",
                     "a(^b);", "a(^flag);", "a(^True);", "a()[^];", "a()[K,^];", "a()[K ^L];", "a()[^7];", "a()[K]^[L];",
                     "a^[K]();", "a(^(1));", "a(); b(7)^", "a();^7", 'a()^"a";', "a(^{", "a()[K^;", "a()[K^)"]:
            self.fails(3, text)

    def test_reserved_words_are_no_names(self):
        for word in RESERVED:
            self.fails(3, f"^{word}();")
            self.fails(3, f"a()[^{word}];")
            if word not in ("true", "false"):
                self.fails(3, f"a(^{word});")

    def test_4_values_and_5(self):
        four = 'a(1, true, "x", false'
        self.holds(four + ");")
        for value in ["0", "-1", "true", "false", '""']:
            self.fails(4, four + ", ^" + value + ");")
            self.fails(4, four + ", ^" + value)
        for other in [")", "b", "flag", "", "="]:
            self.fails(3, four + ", ^" + other + ");")
        self.fails(3, four + " ^1);")

    def test_2_handed_seats_and_3(self):
        self.holds("a()[K, L];")
        self.fails(4, "a()[K, L, ^M];")
        self.fails(4, "a()[K, L, ^K")
        self.fails(3, "a()[K, L, ^];")
        self.fails(3, "a()[K, L, ^of];")
        self.fails(3, "a()[K, L ^M];")

    def test_64_messages_and_65(self):
        self.holds("a();" * 64)
        self.assertEqual(len(read_course(list(b"a();" * 64))), 64)
        self.fails(4, "a();" * 64 + "^a();")
        self.fails(4, "a();" * 64 + "^a")
        self.fails(3, "a();" * 64 + "^;")
        self.fails(3, "a();" * 64 + "^if();")

    def test_left_to_right(self):
        self.fails(3, "a(^=); a(1,2,3,4,5);")
        self.fails(4, "a(1,2,3,4,^5); =")


class Wrong(unittest.TestCase):
    def wrong(self, number, text):
        part = part_of(list(MIXED.encode()))
        messages = read_course(list(text.encode("latin-1")))
        self.assertEqual(len(messages), 1)
        return wrong_with(part.states[number], messages[0])

    def test_may_come(self):
        for text in ['a(true, -5, "")[K, L];', 'a(false, 5, "\\xff\\n\\"")[K, L];', "b();", "c(1)[K];", "c(2)[K];"]:
            self.assertEqual(self.wrong(0, text), 0, text)
        self.assertEqual(self.wrong(2, "a();"), 0)

    def test_at_a_stop(self):
        for text in ["a();", "zz(1)[K];"]:
            self.assertEqual(self.wrong(1, text), 1)

    def test_no_such_label(self):
        for text in ["B();", "bb();", "A();", "d(1, 2)[K];"]:
            self.assertEqual(self.wrong(0, text), 3)
        self.assertEqual(self.wrong(2, "b();"), 3)

    def test_values(self):
        for text in ["a()[K, L];", 'a(true, 0)[K, L];', 'a(true, 0, "", 1)[K, L];', 'a(1, 0, "")[K, L];',
                     'a("", 0, "")[K, L];', 'a(true, true, "")[K, L];', 'a(true, "0", "")[K, L];',
                     'a(true, 0, true)[K, L];', 'a(true, 0, 0)[K, L];', 'a(true, 6, "")[K, L];',
                     'a(true, -6, "")[K, L];', 'a(true, 0, "abcd")[K, L];', "b(1);", "c(0)[K];", "c(3)[K];",
                     "c(true)[K];", "c();", 'a(true, -6, "");', "a(0, 0)[A];"]:
            self.assertEqual(self.wrong(0, text), 5, text)

    def test_handed_seats(self):
        for text in ['a(true, 0, "");', 'a(true, 0, "")[K];', 'a(true, 0, "")[L, K];', 'a(true, 0, "")[K, M];',
                     'a(true, 0, "")[K, K];', "b()[K];", "c(1);", "c(1)[k];", "c(1)[K, L];"]:
            self.assertEqual(self.wrong(0, text), 6, text)

    def test_a_wrong_message_is_refused_wherever_it_stands(self):
        for number, text in [(1, "a();"), (0, "B();"), (0, "b(1);"), (0, "c(1);"), (0, "c(1)[K]; b();"),
                             (0, "b(); b(); c(3)[K];"), (0, "b(); d(); b();"), (2, "b();"), (2, "a(); a()[K];")]:
            self.assertEqual(on(MIXED, rank(number, text)), [[-5]], text)
        for number, text in [(0, "b(); b(); c(1)[K];"), (1, ""), (2, "a(); a();")]:
            self.assertGreaterEqual(on(MIXED, rank(number, text))[0][0], 0, text)


if __name__ == "__main__":
    unittest.main()
