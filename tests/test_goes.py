import random
import unittest

from tests import model
from tests.calling import (BUYING, course, goes, later, load, many_on, on, rank, row, run, total, unpack, width,
                           words_of)
from tests.test_part_faults import marked

FAR = 10 ** 18
PART = ("part P of A start S S = send A -> B { m(num 0 9, flag)[K] T ; u() U ; s(text 2) S } U = stop "
        "T = recv A <- B { t() T ; x(text 255, text 255)[K, L] S ; q(num -3 3) U }")


class Goes(unittest.TestCase):
    def test_it_goes(self):
        for i, text, end in [(0, "u();", 1), (0, "m(0, true)[K];", 2), (0, 's("");', 0), (2, "t();", 2),
                             (2, "q(-3);", 1), (0, 's("ab"); m(9, false)[K]; t(); x("", "")[K, L]; u();', 1),
                             (2, "t(); t(); q(0);", 1), (0, 's("");' * 64, 0), (2, "t();" * 63 + "q(3);", 1)]:
            self.assertEqual(on(PART, goes(i, text)), [[1, text.count(";"), end]], text)

    def test_no_messages(self):
        for i in [0, 1, 2]:
            for text in ["", " \t\n", "# none", " # none\n "]:
                self.assertEqual(on(PART, goes(i, text)), [[1, 0, i]])

    def test_totals_are_not_looked_at(self):
        for text in ['x("", "")[K, L];', "t(); t(); t();", 't(); x("a", "b")[K, L]; s("");']:
            self.assertEqual(on(PART, rank(2, text)), [[-3]])
            self.assertEqual(on(PART, goes(2, text))[0][:2], [1, text.count(";")])
        self.assertEqual(on(PART, goes(2, 'x("", "")[K, L]; s("abc");'), goes(2, 'x("", "")[K, L]; u(); u();')),
                         [[2, 1, 5], [2, 2, 1]])

    def test_of_all_courses_of_small_parts(self):
        source = random.Random(22)
        for _ in range(30):
            part = model.some_part(source)
            names = [state[0] for state in part[3]]
            for i, name in enumerate(names):
                for n in [1, 2, 3]:
                    courses = model.courses_from(part, name, n)[:60]
                    ends = [names.index(model.end_of(part, name, c)) for c in courses]
                    told = many_on(model.part_text(part), [goes(i, model.course_text(c)) for c in courses])
                    self.assertEqual(told, [[1, n, end] for end in ends])


class GoesNot(unittest.TestCase):
    WRONG = {1: ["u();", "s(1,2,3,4)[A, B];", "zz();"], 3: ["U();", "t();", "mm(0, true)[K];", "zz(7)[L];"],
             5: ["m()[K];", "m(0)[K];", "m(10, true)[K];", "m(-1, true)[K];", "m(true, 0)[K];", 'm("0", true)[K];',
                 "m(0, true, 1)[K];", "m(0, 1);", 's("abc");', "u(0);", "m(0, true, 0)[L];"],
             6: ["m(0, true);", "m(0, true)[L];", "m(0, true)[K, L];", "m(0, true)[k];", "u()[K];", 's("")[K];']}

    def test_each_at_each_place(self):
        for code, texts in self.WRONG.items():
            for text in texts:
                for before in [0, 1, 5, 62]:
                    for behind in ["", 's("");', "zz();"]:
                        # At a stop nothing more may come, so u leads there first.
                        front = 's("a");' * before + ("u();" if code == 1 else "")
                        place = front.count(";")
                        self.assertEqual(on(PART, goes(0, front + text + behind))[0], [2, place, code]
                                         if place + 1 + behind.count(";") <= 64 else [0, 4, len(front + text)], text)

    def test_the_last_of_64(self):
        for text, code in [("zz();", 3), ("m();", 5), ("u()[K];", 6)]:
            self.assertEqual(on(PART, goes(0, 's("");' * 63 + text)), [[2, 63, code]])
        self.assertEqual(on(PART, goes(0, 's("");' * 62 + "u();u();")), [[2, 63, 1]])

    def test_the_first_wrong_message_is_told(self):
        self.assertEqual(on(PART, goes(0, "zz(); m();"), goes(0, "m(); zz();"), goes(0, 's(""); u(1); zz(); u()[K];')),
                         [[2, 0, 3], [2, 0, 5], [2, 1, 5]])

    def test_from_another_state(self):
        self.assertEqual(on(PART, goes(1, "u();"), goes(2, "u();"), goes(2, "q(-4);"), goes(2, "q(0); q(0);"),
                            goes(2, "t(); t()[K];"), goes(2, 'x("", "")[L, K];')),
                         [[2, 0, 1], [2, 0, 3], [2, 0, 5], [2, 1, 1], [2, 1, 6], [2, 0, 6]])

    def test_where_the_others_refuse(self):
        source = random.Random(23)
        labels = ["a();", "ab();", "B(true);", "b(-1);", "Z()[K];", "z(5);", "a(0);", 'abc("");', "a1()[K, L];"]
        met = set()
        for _ in range(60):
            text = model.part_text(model.some_part(source))
            for _ in range(10):
                course_text = "".join(source.choices(labels, k=source.randint(0, 3)))
                ranked, gone = on(text, rank(0, course_text), goes(0, course_text))
                self.assertEqual(ranked == [-5], gone[0] == 2)
                self.assertEqual(ranked[0] >= 0, gone[0] == 1)
                self.assertEqual(len(gone), 3)
                met.add((gone[0], gone[2] if gone[0] == 2 else 0))
        self.assertEqual(met, {(1, 0), (2, 1), (2, 3), (2, 5), (2, 6)})


class NoCourse(unittest.TestCase):
    def fails(self, code, text):
        plain, place = marked(text)
        for i in [0, 1, 2]:
            self.assertEqual(on(PART, goes(i, plain)), [[0, code, place]], text)

    def test_too_long(self):
        self.fails(1, "u();" + " " * 4092 + "^ ")
        self.fails(1, "<" * 4096 + "^<")
        self.assertEqual(on(PART, goes(0, "u();" + " " * 4092)), [[1, 1, 1]])
        self.assertEqual(on(PART, [12, 0, 8192] + [32] * 8192), [[0, 1, 4096]])

    def test_no_token(self):
        for text in ["^<", "u(); ^\r", "u(^007);", 's(^"a', 's(^"\\x4G");', 's(^"\n");', "u(^-0);", "u(^1000000001);",
                     "^" + "w" * 17 + "();", "; ; ^%", 's(^"' + "a" * 256 + '");']:
            self.fails(2, text)

    def test_grammar(self):
        for text in ["^;", "u^;", "u()^", "u() ^u();", "u(^,);", "m(1,^);", "m(1 ^2);", "u()[^];", "u()[K,^];",
                     "^true();", "u()[^of];", "u(); ^7", "u(); u(^", "u()[K]^", "u(); # end\n ^]"]:
            self.fails(3, text)

    def test_one_too_many(self):
        self.fails(4, "u(1, 2, 3, 4, ^5);")
        self.fails(4, "u()[K, L, ^M];")
        self.fails(4, "u();" * 64 + "^u();")
        self.fails(3, "u();" * 64 + "^;")

    def test_it_is_looked_at_before_whether_it_goes(self):
        self.fails(3, "zz(); u()^")
        self.fails(2, "zz(); ^<")


class Refusals(unittest.TestCase):
    def test_no_part(self):
        calls = [goes(0, ""), goes(-1, "<"), goes(0, "u();")]
        self.assertEqual(run(*calls, load("part"), *calls), [[-1]] * 3 + [[0, 3, 4]] + [[-1]] * 3)

    def test_no_such_state(self):
        for i in [-FAR, -3, -2, -1, 3, 64, FAR]:
            self.assertEqual(on(PART, goes(i, ""), goes(i, "<"), goes(i, "u();"), goes(i, "zz();")), [[-2]] * 4)


# Whatever course is told goes from its state.
class Told(unittest.TestCase):
    def test_of_some_parts(self):
        source = random.Random(24)
        for _ in range(40):
            part = model.some_part(source, 5, 4)
            text = model.part_text(part)
            for i in range(len(part[3])):
                n = source.choice([1, 2, 3, 10, 40])
                many, wide = on(text, total(i, n), width(i, n))
                if many[0] > 0:
                    self.all_go(text, i, n, many[0], wide[0], source)

    def test_of_buying(self):
        source = random.Random(25)
        for n in [1, 2, 20, 37]:
            many, wide = on(BUYING, total(0, n), width(0, n))
            self.all_go(BUYING, 0, n, many[0], wide[0], source)

    # A course is told however long its one form is, but a text of more than 4096 bytes is no course.
    def test_longer_than_a_text_may_be(self):
        label, seats, least = "a" * 16, "K" * 16 + ", " + "L" * 16, "-1000000000"
        values = ", ".join([least] * 4)
        part = (f"part P of A start S S = send A -> B {{ {label}({', '.join([f'num {least} {least}'] * 4)})[{seats}] S ; "
                "b() S }")
        line = f"{label}({values})[{seats}] ;\n"
        self.assertGreater(len(line) * 64, 4096)
        told = on(part, unpack(0, 64, [0] * 8), course(0, 64, 0))
        self.assertEqual(told, [row(line * 64)] * 2)
        self.assertEqual(on(part, goes(0, line * 64), rank(0, line * 64), goes(0, line * 20)),
                         [[0, 1, 4096], [-4], [1, 20, 0]])

    def all_go(self, text, i, n, many, wide, source):
        first = words_of(on(text, course(i, n, 0))[0])
        for r in [0, many - 1, source.randrange(many), source.randrange(many)]:
            told = on(text, course(i, n, r), unpack(i, n, r.to_bytes(wide, "big")), later(i, r, first))
            self.assertEqual(told[0], told[1])
            self.assertEqual(told[0], told[2])
            if told[0][0] <= 4096:
                answer = on(text, goes(i, words_of(told[0])))[0]
                self.assertEqual(answer[:2], [1, n])
                self.assertEqual(row(words_of(told[0])), told[0])


if __name__ == "__main__":
    unittest.main()
