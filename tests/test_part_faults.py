import unittest

from tests.calling import BUYING, load, run, shown, words_of

HEAD = "part P of A start S "
ONE = HEAD + "S = stop"
RESERVED = ("script parties seat of start end both flag num text part stop send recv program for def if pick any set "
            "go true false").split()


def loaded(text):
    return run(load(text))[0]


# The text with the place of the fault marked by a ^, which is taken out again.
def marked(text):
    place = text.index("^")
    return text[:place] + text[place + 1:], place


class Faults(unittest.TestCase):
    def holds(self, text):
        self.assertEqual(loaded(text), [1], text)

    def fails(self, code, text):
        plain, place = marked(text)
        self.assertEqual(loaded(plain), [0, code, place], text)


class Examples(Faults):
    def test_document(self):
        self.assertEqual(loaded("part P of A start S S = send A -> A { a() T }"), [0, 8, 34])
        self.assertEqual(loaded("part P of A start S S = stop S = stop"), [0, 5, 29])
        self.assertEqual(loaded("part P of A start S S = recv A <- B { a("), [0, 3, 40])
        self.holds(BUYING)


class LengthAndTokens(Faults):
    def test_length_comes_first(self):
        self.holds(ONE + " " * (4096 - len(ONE)))
        self.assertEqual(loaded(ONE + " " * (4097 - len(ONE))), [0, 1, 4096])
        self.assertEqual(loaded("\x00" * 4097), [0, 1, 4096])
        self.assertEqual(loaded("\x00" * 8192), [0, 1, 4096])

    def test_tokens_come_before_grammar(self):
        self.fails(2, "this is no part at all ^< -")
        self.fails(2, HEAD + "S = send A -> A { a() T } ^007")
        self.fails(2, ONE + " ^\r\n")
        self.fails(2, ONE + ' ^"')
        self.fails(2, ONE + " ^aaaaaaaaaaaaaaaaa")

    def test_blanks_and_remarks(self):
        self.holds("#x\n\tpart P#y\nof A start S S=stop#" + "z" * 50)
        self.fails(2, "part P of A^\rstart S S = stop")

    def test_words_of_16_bytes(self):
        name = "abcdefghijklmno9"
        self.holds(f"part {name} of {name} start {name} {name} = send {name} -> B {{ {name}() {name} }}")


class Head(Faults):
    def test_each_token_is_asked_for(self):
        words = (ONE + " ").split()
        for count in range(len(words)):
            start = "".join(word + " " for word in words[:count])
            for other in ["", ";", "7", '"a"', "name" if words[count] in RESERVED + ["="] else "flag"]:
                self.fails(3, start + "^" + other)

    def test_no_state(self):
        self.fails(3, "part P of A start S^")
        self.fails(3, "part P of A start S  # x\n ^")

    def test_reserved_words_are_no_names(self):
        for word in RESERVED:
            self.fails(3, f"part ^{word} of A start S S = stop")
            self.fails(3, f"part P of ^{word} start S S = stop")
            self.fails(3, f"part P of A start ^{word} S = stop")
            self.fails(3, HEAD + f"^{word} = stop")
            self.fails(3, HEAD + f"S = send ^{word} -> B {{ a() S }}")
            self.fails(3, HEAD + f"S = send A -> ^{word} {{ a() S }}")
            self.fails(3, HEAD + f"S = send A -> B {{ ^{word}() S }}")
            self.fails(3, HEAD + f"S = send A -> B {{ a()[^{word}] S }}")
            self.fails(3, HEAD + f"S = send A -> B {{ a()[K, ^{word}] S }}")
            self.fails(3, HEAD + f"S = send A -> B {{ a() ^{word} }}")
            self.holds(HEAD.replace("P", word.upper()) + f"S = send A -> B {{ {word.capitalize()}() S }}")


class Grammar(Faults):
    def test_deeds(self):
        self.holds(HEAD + "S = send x -> y { a() S }")
        self.holds(HEAD + "S = recv x <- y { a() S }")
        self.fails(3, HEAD + "S = ^wait")
        self.fails(3, HEAD + "S = ^flag")
        self.fails(3, HEAD + "S = ^{ a() S }")
        self.fails(3, HEAD + "S = send x ^<- y { a() S }")
        self.fails(3, HEAD + "S = recv x ^-> y { a() S }")
        self.fails(3, HEAD + "S = send x ^y { a() S }")
        self.fails(3, HEAD + "S ^stop")
        self.fails(3, HEAD + "S = stop ^= stop")
        self.fails(3, HEAD + "S = stop ^; T = stop")
        self.fails(3, HEAD + "S = stop ^stop = stop")

    def test_branches(self):
        self.fails(3, HEAD + "S = send x -> y ^a() S")
        self.fails(3, HEAD + "S = send x -> y { ^}")
        self.fails(3, HEAD + "S = send x -> y { a() S ; ^}")
        self.fails(3, HEAD + "S = send x -> y { a() S ^, b() S }")
        self.fails(3, HEAD + "S = send x -> y { a() S ^b() S }")
        self.fails(3, HEAD + "S = send x -> y { ^; a() S }")
        self.fails(3, HEAD + "S = send x -> y { a() S^")
        self.fails(3, HEAD + "S = send x -> y { a() S ;^")
        self.fails(3, HEAD + "S = send x -> y { a() S } ^}")
        self.fails(3, HEAD + "S = send x -> y { a ^S }")
        self.fails(3, HEAD + "S = send x -> y { a() ^}")
        self.fails(3, HEAD + "S = send x -> y { a() ^-> S }")

    def test_handed_seats(self):
        self.holds(HEAD + "S = send x -> y { a()[K] S ; b()[K, L] S }")
        self.fails(3, HEAD + "S = send x -> y { a()[^] S }")
        self.fails(3, HEAD + "S = send x -> y { a()[K,^] S }")
        self.fails(3, HEAD + "S = send x -> y { a()[K ^L] S }")
        self.fails(3, HEAD + "S = send x -> y { a()[K ^S }")
        self.fails(3, HEAD + "S = send x -> y { a()[K] ^[L] S }")
        self.fails(3, HEAD + "S = send x -> y { a^[K]() S }")
        self.fails(3, HEAD + "S = send x -> y { a()[^7] S }")

    def test_ranges(self):
        self.holds(HEAD + "S = send x -> y { a(flag, num -3 4, text 0, text 255) S }")
        for inner in ["^,", "flag,^", "flag ^flag", "^7", '^"a"', "^true", "^name", "num ^", "num 1 ^", "num 1 ^, 2",
                      "num 1 2 ^3", "num ^a 2", "num 1 ^a", "text ^", "text ^a", "text 1 ^2", "flag ^1", "^num1 2",
                      "^of", "^stop", "flag ^; flag", 'num 1 ^"2"']:
            self.fails(3, HEAD + "S = send x -> y { a(" + inner + ") S }")

    def test_ends_in_the_middle(self):
        whole = ("part P of A start S S = send A -> B { a ( flag , num 0 1 , text 2 ) [ K , L ] S ; b ( ) S } "
                 "T = recv A <- B { c ( ) S }")
        words = whole.split()
        for count in range(len(words)):
            text = " ".join(words[:count])
            if words[count - 1:count] == ["}"]:
                self.holds(text)
            else:
                self.assertEqual(loaded(text), [0, 3, len(text)])
                self.assertEqual(loaded(text + " #\n "), [0, 3, len(text) + 4])


class TooMany(Faults):
    def states(self, count):
        return HEAD + "S = stop " + "".join(f"S{k} = stop " for k in range(1, count))

    def test_64_states_and_65(self):
        self.holds(self.states(64))
        self.fails(4, self.states(64) + "^S64 = stop")
        self.fails(4, self.states(64) + "^S64")
        self.fails(4, self.states(64) + "^S = stop")
        self.fails(3, self.states(64) + "^stop = stop")
        self.fails(3, self.states(64) + "^= stop")
        self.fails(3, self.states(64) + "^;")

    def branches(self, count):
        return HEAD + "S = send A -> B { " + " ; ".join(f"a{k}() S" for k in range(count))

    def test_16_branches_and_17(self):
        self.holds(self.branches(16) + " }")
        self.fails(4, self.branches(16) + " ; ^b() S }")
        self.fails(4, self.branches(16) + " ; ^a1")
        self.fails(3, self.branches(16) + " ; ^}")
        self.fails(3, self.branches(16) + " ; ^flag() S }")
        self.fails(3, self.branches(16) + " ; ^")
        self.fails(3, self.branches(16) + " ^b() S }")

    def test_4_ranges_and_5(self):
        four = HEAD + "S = send A -> B { a(flag, num 0 1, text 2, flag"
        self.holds(four + ") S }")
        for word in ["flag", "num", "text", "num 2 1", "text 256"]:
            self.fails(4, four + ", ^" + word + ") S }")
        self.fails(3, four + ", ^) S }")
        self.fails(3, four + ", ^true) S }")
        self.fails(3, four + ", ^name) S }")
        self.fails(3, four + ", ^7) S }")
        self.fails(3, four + " ^flag) S }")

    def test_2_handed_seats_and_3(self):
        two = HEAD + "S = send A -> B { a()[K, L"
        self.holds(two + "] S }")
        self.fails(4, two + ", ^M] S }")
        self.fails(4, two + ", ^K")
        self.fails(4, two + ", ^A] S }")
        self.fails(3, two + ", ^] S }")
        self.fails(3, two + ", ^flag] S }")
        self.fails(3, two + " ^M] S }")

    def test_left_to_right(self):
        self.fails(4, self.branches(16) + " ; ^b(num 2 1) S }")
        self.fails(7, self.branches(15) + " ; b(num 2 ^1) S ; c() S ; d() S }")
        self.fails(3, self.branches(15) + " ; b(^) S }".replace("^)", "^="))
        self.fails(4, HEAD + "S = send A -> B { a(flag, flag, flag, flag, ^num 2 1) S }")


class Bounds(Faults):
    def branch(self, inner):
        return HEAD + "S = send A -> B { a(" + inner + ") S }"

    def test_num(self):
        for bounds in ["0 0", "-5 -5", "-1000000000 1000000000", "1000000000 1000000000", "-2 -1"]:
            self.holds(self.branch("num " + bounds))
        self.fails(7, self.branch("num 1 ^0"))
        self.fails(7, self.branch("num 0 ^-1"))
        self.fails(7, self.branch("num 1^-9"))
        self.fails(7, self.branch("num -1 ^-2, num 2 1"))
        self.fails(7, self.branch("num 1000000000 ^999999999"))
        self.fails(2, self.branch("num 0 ^1000000001"))
        self.fails(2, self.branch("num ^-1000000001 0"))

    def test_text(self):
        self.holds(self.branch("text 0"))
        self.holds(self.branch("text 255"))
        self.fails(7, self.branch("text ^256"))
        self.fails(7, self.branch("text ^-1"))
        self.fails(7, self.branch("flag, text ^1000000000"))

    def test_order_with_other_faults(self):
        self.fails(3, self.branch("num 1 ^a"))
        self.fails(3, self.branch("num 9 ^, 1"))
        self.fails(7, self.branch("num 9 ^1 7"))
        self.fails(7, self.branch("text ^256 flag"))
        self.fails(3, self.branch("flag ^flag, text 256"))
        self.fails(7, "part P of A start X S = send A -> A { a(num 1 ^0) Y }")


class Names(Faults):
    def test_start(self):
        self.fails(6, "part P of A start ^X S = stop")
        self.fails(6, "part P of A start ^X S = stop S = stop")
        self.fails(6, "part P of A start ^s S = stop")
        self.holds("part P of A start T S = stop T = stop")

    def test_states(self):
        self.fails(5, HEAD + "S = stop T = stop ^S = stop T = stop")
        self.fails(5, HEAD + "S = stop ^S = send A -> A { a() X }")
        self.holds(HEAD + "S = stop s = stop")

    def test_seats(self):
        self.fails(8, HEAD + "S = recv B <- ^B { a() S }")
        self.fails(8, HEAD + "S = send B -> ^B { a() X ; a() S }")
        self.fails(6, HEAD + "S = send B -> C { a() ^X } T = send B -> B { a() S }")
        self.holds(HEAD + "S = send B -> b { a() S }")
        self.holds(HEAD + "S = recv X <- Y { a() S }")

    def test_labels(self):
        self.fails(5, HEAD + "S = send A -> B { a() S ; b() S ; ^a(flag)[A] X }")
        self.holds(HEAD + "S = send A -> B { a() S ; A() S } T = send A -> B { a() S }")
        self.fails(6, HEAD + "S = send A -> B { a() ^X ; a() S }")

    def test_handed_seats(self):
        self.fails(9, HEAD + "S = send A -> B { a()[^A] S }")
        self.fails(9, HEAD + "S = send A -> B { a()[K, ^A] S }")
        self.fails(9, HEAD + "S = send A -> B { a()[^A, A] X }")
        self.fails(5, HEAD + "S = send A -> B { a()[K, ^K] X }")
        self.fails(6, HEAD + "S = send A -> B { a()[K] ^X }")
        self.fails(5, HEAD + "S = send A -> B { a() S ; ^a()[A] S }")
        self.holds(HEAD + "S = send C -> D { a()[C, D] S ; b()[C] S ; c()[a] S }")

    def test_states_behind(self):
        self.fails(6, HEAD + "S = send A -> B { a() S ; b() ^T }")
        self.holds(HEAD + "S = send A -> B { a() T } T = stop")

    def test_kinds_of_names_do_not_stand_in_the_way(self):
        self.holds("part x of x start x x = send x -> y { x() x ; y()[y] x }")

    def test_order_of_the_text(self):
        self.fails(6, "part P of A start ^X S = send A -> A { a()[A] X ; a() X } S = stop")
        self.fails(8, HEAD + "S = send A -> ^A { a()[A] X ; a() X } S = stop")
        self.fails(9, HEAD + "S = send A -> B { a()[^A] X ; a() X } S = stop")
        self.fails(6, HEAD + "S = send A -> B { a()[K] ^X ; a() X } S = stop")
        self.fails(5, HEAD + "S = send A -> B { a()[K] S ; ^a() X } S = stop")
        self.fails(6, HEAD + "S = send A -> B { a()[K] S ; b() ^X } S = stop")
        self.fails(5, HEAD + "S = send A -> B { a()[K] S ; b() S } ^S = stop")

    def test_grammar_comes_before_names(self):
        self.fails(3, "part P of A start X S = send A -> A { a()[A] X } ^=")
        self.fails(4, "part P of A start X S = send A -> A { a()[A] X ; b()[K, L, ^M")


class FormTooLong(Faults):
    # A part's form, and the same part in fewer bytes; the title makes the length come out right.
    def form(self, title):
        return (f"part {title} of A\nstart S\nS = stop\n"
                + "".join(f"s{k} = send A -> B {{ a(num 1 2, flag) S ; b()[K, L] S ; ccc() S }}\n" for k in range(10, 72))
                + "t" * 16 + " = stop\n")

    def form_of(self, length):
        title = "t" * (length - len(self.form("")))
        self.assertTrue(1 <= len(title) <= 16, len(title))
        return self.form(title)

    def compact(self, form):
        for sign in ["=", "->", "{", "}", ";", ",", ")", "]"]:
            form = form.replace(" " + sign, sign).replace(sign + " ", sign)
        return form

    def test_4096_bytes_and_more(self):
        for length in [4095, 4096]:
            form = self.form_of(length)
            self.assertEqual(len(form), length)
            for text in [form, self.compact(form)]:
                told = run(load(text), shown())
                self.assertEqual(told[0], [1])
                self.assertEqual(words_of(told[1]), form)
        for length in [4097, 4098]:
            text = self.compact(self.form_of(length))
            self.assertLess(len(text), 4096)
            self.assertEqual(loaded(text), [0, 10, 0])

    def test_names_come_before_it(self):
        text = self.compact(self.form_of(4097))
        place = text.rindex("S}")
        self.assertEqual(loaded(text[:place] + "X" + text[place + 1:]), [0, 6, place])


if __name__ == "__main__":
    unittest.main()
