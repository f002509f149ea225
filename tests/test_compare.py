import random
import unittest

from tests import model
from tests.calling import PLAIN, compare, load, many_on, on, rank, run
from tests.test_totals import chain

VALUES = ("part P of A start S S = send A -> B { n(num -20 20) S ; f(flag) S ; t(text 5) S ; "
          "m(num -1 1, text 2, flag, num 1 30)[K, L] S ; a() S ; ab() S ; abc() S ; aB() S ; Z() S ; a0() S }")
# From T on the totals pass the limit with 2 messages; U is a stop.
WIDE = ("part P of A start S S = send A -> B { m(num 0 9) S ; u() U } "
        "T = recv A <- B { t(text 255, text 100) T ; w(flag) T } U = stop")


class Order(unittest.TestCase):
    def in_order(self, part, *courses):
        asked = [compare(0, first, second) for first in courses for second in courses]
        places = range(len(courses))
        told = [[1 if k < l else 2 if k == l else 3] for k in places for l in places]
        self.assertEqual(many_on(part, asked), told, courses)

    def test_labels(self):
        self.in_order(VALUES, "Z();", "a();", "a0();", "aB();", "ab();", "abc();", "f(false);", 'm(-1,"",false,1)[K,L];')

    def test_truths(self):
        self.in_order(VALUES, "f(false);", "f(true);")

    def test_numbers(self):
        self.in_order(VALUES, "n(-20);", "n(-9);", "n(-1);", "n(0);", "n(1);", "n(9);", "n(10);", "n(20);")

    def test_texts(self):
        self.in_order(VALUES, 't("");', r't("\x00");', 't("A");', 't("a");', r't("\xff");', r't("\x00\x00");',
                      't("aa");', 't("ab");', 't("ba");', 't("aaa");', 't("zzzz");', 't("aaaaa");', 't("aaaab");')

    def test_the_first_value_that_differs_decides(self):
        self.in_order(VALUES, 'm(-1, "", false, 1)[K, L];', 'm(-1, "", false, 30)[K, L];', 'm(-1, "", true, 1)[K, L];',
                      'm(-1, "zz", true, 30)[K, L];', 'm(0, "", false, 2)[K, L];', 'm(0, "z", false, 10)[K, L];',
                      'm(0, "aa", false, 2)[K, L];', 'm(1, "", false, 1)[K, L];')

    def test_the_first_message_that_differs_decides(self):
        self.in_order(VALUES, "a(); a(); a();", "a(); a(); ab();", "a(); ab(); a();", "a(); t(\"aaaaa\"); a();",
                      "ab(); Z(); Z();", "ab(); a(); a();", "n(0); n(0); n(5);", "n(0); n(1); n(-5);", "n(1); a(); a();")

    def test_courses_that_differ_late(self):
        for behind in [0, 1, 30]:
            before, same = "n(3); ab();" * 16, "f(true);" * behind
            self.in_order(VALUES, before + "n(-1);" + same, before + "n(0);" + same, before + 't("");' + same)

    def test_no_messages(self):
        for part, i in [(VALUES, 0), (WIDE, 0), (WIDE, 1), (WIDE, 2)]:
            self.assertEqual(on(part, compare(i, "", ""), compare(i, " # none", "\n")), [[2], [2]])

    def test_written_otherwise(self):
        same = ['t("a\\n") ;\nf(true) ;\nm(-1, "", false, 7)[K, L] ;\n',
                't("a\\n");f(true);m(-1,"",false,7)[K,L];',
                '# first\nt ( "\\x61\\x0a" )\t; f(true)\n;m(-1 ,"" , false,7) [ K , L ] ;# last']
        self.assertEqual(on(VALUES, *[compare(0, a, b) for a in same for b in same]), [[2]] * 9)
        other = same[2].replace("7", "8")
        self.assertEqual(on(VALUES, *[compare(0, a, other) for a in same]), [[1]] * 3)
        self.assertEqual(on(VALUES, *[compare(0, other, a) for a in same]), [[3]] * 3)

    def test_all_courses_of_small_parts(self):
        source = random.Random(14)
        for _ in range(40):
            part = model.some_part(source)
            text = model.part_text(part)
            i = source.randrange(len(part[3]))
            for n in [0, 1, 2, 3]:
                courses = [model.course_text(c) for c in model.in_order(part, part[3][i][0], n)]
                if not courses:
                    continue
                pairs = [(source.randrange(len(courses)), source.randrange(len(courses))) for _ in range(40)]
                pairs += [(k, k + 1) for k in range(min(len(courses) - 1, 40))]
                told = many_on(text, [compare(i, courses[k], courses[l]) for k, l in pairs])
                self.assertEqual(told, [[1 if k < l else 2 if k == l else 3] for k, l in pairs])

    def test_ranks_keep_the_order(self):
        source = random.Random(15)
        labels = ["n(5);", "n(-5);", "f(true);", "t(\"\");", "t(\"zz\");", "a();", "ab();", "abc();", "Z();"]
        courses = ["".join(source.choices(labels, k=40)) for _ in range(30)]
        ranks = [answer[0] for answer in many_on(VALUES, [rank(0, c) for c in courses])]
        told = many_on(VALUES, [compare(0, a, b) for a in courses for b in courses])
        self.assertEqual(told, [[1 if a < b else 2 if a == b else 3] for a in ranks for b in ranks])

    def test_just_below_the_limit(self):
        least = "a() ;\nf(1, 1, 1, 1) ;\n" + "e(1, 1, 1) ;\n" * 49
        greatest = "b() ;\n" * 49 + "a() ;\nf(99999, 100001, 357641, 27961) ;\n"
        self.in_order(chain(False), least, least[:-4] + "2) ;\n", greatest)
        self.assertEqual(on(chain(True), compare(0, least, greatest), compare(0, least, least)), [[-3], [-3]])


class Refusals(unittest.TestCase):
    LONG = "# " + "x" * 4095

    def refused(self, code, i, first, second):
        self.assertEqual(on(WIDE, compare(i, first, second)), [[code]], (i, first, second))

    def test_no_part(self):
        calls = [compare(0, "", ""), compare(-1, "<", "<"), compare(9, "m(0);", "")]
        self.assertEqual(run(*calls, load("part"), *calls), [[-1]] * 3 + [[0, 3, 4]] + [[-1]] * 3)

    def test_no_such_state(self):
        for i in [-10 ** 18, -3, -1, 3, 10 ** 18]:
            for first, second in [("", ""), ("m(0);", "m(1);"), ("<", ""), ("", "<"), ("m(10);", "m(0)")]:
                self.refused(-2, i, first, second)

    def test_the_first(self):
        for second in ["m(0);", "m(1); m(1);", "", "<", "m(10);", self.LONG]:
            self.refused(-4, 0, "m(0)", second)
            self.refused(-4, 0, "m(0);" * 65, second)
            self.refused(-5, 0, "m(10);", second)
            self.refused(-5, 2, "u();", second)
            self.refused(-3, 1, "w(true); w(true);", second)
            self.refused(-3, 1, 't("", ""); t("", "");', second)

    def test_the_second_is_no_course(self):
        for second in ["<", "m(0)", self.LONG, "m(0);;", "m(0);" * 65, "m(10)", "m(1,2,3,4,5);", "m(0); m(0)"]:
            self.refused(-7, 0, "m(0);", second)
        self.refused(-7, 2, "", "<")

    def test_the_second_does_not_go(self):
        for second in ["m(10);", "m();", "n();", "m(true);", "m(0)[K];", "u(); u();", "m(0); u(); m(0);"]:
            self.refused(-8, 0, "m(0);", second)
        self.refused(-8, 2, "", "m(0);")

    def test_not_as_many_messages(self):
        self.refused(-9, 0, "m(0);", "")
        self.refused(-9, 0, "", "m(0);")
        self.refused(-9, 0, "m(0); m(0);", "m(0);")
        self.refused(-9, 0, "m(0);", "m(0); u();")
        self.refused(-9, 0, "m(1);" * 63, "m(1);" * 64)

    def test_a_second_with_too_great_a_total_is_not_as_long(self):
        self.refused(-9, 1, "", "w(true); w(true);")
        self.refused(-9, 1, "w(true);", 't("", ""); t("", "");')

    def test_of_the_document(self):
        self.assertEqual(on(PLAIN, compare(0, 'a("b");', "m(0, false);"), compare(0, "m(1,false);", "m(0,true);"),
                            compare(0, 'm(1,false);a("");', 'm(1, false) ;\na("") ;')), [[1], [3], [2]])


if __name__ == "__main__":
    unittest.main()
