import unittest

import coursenumbers
from coursenumbers.teller import UnknownCall, answers
from tests.calling import BUYING, PLAIN, course, later, load, rank, run, shown, size, total

CALLS = [total(0, 1), load("part"), load(PLAIN), shown(), size(0, 1), total(0, 2), rank(0, 'a("b");'),
         course(0, 2, 554), course(0, 2, 5540), later(0, 1, "m(0,true);"), load(BUYING), load(PLAIN + "="), shown()]
ALL = [number for call in CALLS for number in call]


class Interface(unittest.TestCase):
    def test_answers_stand_one_behind_another(self):
        self.assertEqual(answers([3, 0, 0]), [1, -1])
        self.assertEqual(answers([0, 4] + list(b"part")), [3, 0, 3, 4])
        self.assertEqual(answers([0, 0]), [3, 0, 3, 0])
        text = "part P of A\nstart S\nS = send A -> B { a() S }\n"
        told = answers(load(text) + [1, 2, 0, 0, 3, 0, 64, 4, 0, 4] + list(b"a();") + [5, 0, 1, 0, 6, 0, 0, 0, 6, 0, 1, 0])
        self.assertEqual(told, [1, 1, len(text) + 1, len(text)] + list(text.encode())
                         + [1, 1, 1, 1, 1, 0, 7, 6] + list(b"a() ;\n") + [1, 0, 1, -6])

    def test_what_is_handed_in_is_not_changed(self):
        handed = list(ALL)
        first = answers(handed)
        self.assertEqual(handed, ALL)
        self.assertEqual(answers(handed), first)
        self.assertEqual(handed, ALL)

    def test_nothing_is_kept(self):
        for start in range(len(CALLS)):
            whole = run(*CALLS[start:])
            run(load(BUYING))
            self.assertEqual(run(*CALLS[start:]), whole)
        self.assertEqual(run(shown()), [[-1]])

    def test_what_is_given_back_is_its_own(self):
        first = answers(ALL)
        kept = list(first)
        first.clear()
        self.assertEqual(answers(ALL), kept)

    def test_whole_numbers_alone(self):
        told = answers(ALL)
        self.assertIs(type(told), list)
        self.assertEqual({type(number) for number in told}, {int})

    def test_400_calls(self):
        self.assertEqual(run(load(PLAIN), *[total(0, 64)] * 399)[1:], [[20 ** 63 * 277]] * 399)
        self.assertEqual(len(run(load(PLAIN), *[course(0, 64, 2 ** 120)] * 399)), 400)

    def test_one_text_of_8192_bytes(self):
        self.assertEqual(answers([0, 8192] + [32] * 8192), [3, 0, 1, 4096])
        self.assertEqual(run(load(PLAIN), [4, 0, 8192] + [32] * 8192, [6, 0, 1, 8192] + [32] * 8192), [[1], [-4], [-4]])

    def test_no_such_call(self):
        for number in [-1, 13]:
            with self.assertRaises(UnknownCall):
                answers(load(PLAIN) + [number, 0, 0, 0])

    def test_package(self):
        self.assertEqual(coursenumbers.__name__, "coursenumbers")
        self.assertEqual(coursenumbers.teller.answers, answers)


if __name__ == "__main__":
    unittest.main()
