import random
import unittest

import coursenumbers
from coursenumbers.teller import UnknownCall, answers
from tests.calling import (BUYING, PLAIN, compare, course, goes, later, load, pack, rank, row, run, share, shown, size,
                           total, unpack, width)

# Every call but load, each with an answer on PLAIN that is no refusal.
EACH = [shown(), size(0, 1), total(0, 2), rank(0, 'a("b");'), course(0, 2, 554), later(0, 1, "m(0,true);"),
        compare(0, "m(0,true);", 'a("b");'), share(0, 2, 0), width(0, 2), pack(0, 'm(1,false);a("");'),
        unpack(0, 2, [2, 42]), goes(0, 'm(1,false);a("");')]
EACH_ON_PLAIN = [
    row("part P of A\nstart S\nS = send A -> B { m(num 0 9, flag) S ; a(text 1) T }\nT = stop\n"), [257], [5540], [99],
    row('m(1, false) ;\na("") ;\n'), row("m(1, false) ;\n"), [3], [5540], [2], [2, 2, 42],
    row('m(1, false) ;\na("") ;\n'), [1, 2, 1]]
# The same calls where a course has one message alone.
SHORT = "part Q of A\nstart S\nS = send A -> B { a(text 1) T ; m(num 0 9, flag) T }\nT = stop\n"
EACH_ON_SHORT = [row(SHORT), [20], [0], [99], [-6], row("m(1, false) ;\n"), [3], [0], [-6], [-5], [-7], [2, 1, 1]]

CALLS = EACH + [load("part")] + EACH + [load(PLAIN)] + EACH + [course(0, 2, 5540), unpack(0, 2, [255, 255])]
CALLS += [load(PLAIN + "=")] + EACH + [load(SHORT)] + EACH + [load("<")] + EACH + [load(BUYING), shown()]
ALL = [number for call in CALLS for number in call]


class Interface(unittest.TestCase):
    def test_answers_stand_one_behind_another(self):
        self.assertEqual(answers([3, 0, 0]), [1, -1])
        self.assertEqual(answers([0, 4] + list(b"part")), [3, 0, 3, 4])
        self.assertEqual(answers([0, 0]), [3, 0, 3, 0])
        text = "part P of A\nstart S\nS = send A -> B { a() S }\n"
        told = answers(load(text) + [1, 2, 0, 0, 3, 0, 64, 4, 0, 4] + list(b"a();") + [5, 0, 1, 0, 6, 0, 0, 0, 6, 0, 1, 0])
        self.assertEqual(told, [1, 1, len(text) + 1, len(text)] + list(text.encode())
                         + [1, 1, 1, 1, 1, 0, 7, 6] + list(b"a() ;\n") + [1, 0, 1, -6])

    def test_the_later_calls_stand_so_too(self):
        text = "part P of A start S S = send A -> B { a(num 0 299) S }"
        told = answers(load(text) + [7, 0, 5] + list(b"a(1);") + [5] + list(b"a(2);") + [7, 0, 0, 0] + [8, 0, 2, 0]
                       + [9, 0, 1] + [10, 0, 7] + list(b"a(258);") + [11, 0, 1, 2, 1, 2] + [11, 0, 0, 0]
                       + [12, 0, 5] + list(b"a(0);") + [12, 0, 0] + [12, 0, 7] + list(b"a(300);") + [12, 0, 1, 59])
        self.assertEqual(told, [1, 1, 1, 1, 1, 2, 1, 90000, 1, 2, 3, 2, 1, 2, 10, 9] + list(b"a(258) ;\n") + [1, 0]
                         + [3, 1, 1, 0, 3, 1, 0, 0, 3, 2, 0, 5, 3, 0, 3, 0])

    def test_all_calls_mixed(self):
        none = [[-1]] * len(EACH)
        self.assertEqual(run(*CALLS), none + [[0, 3, 4]] + none + [[1]] + EACH_ON_PLAIN + [[-6], [-6]]
                         + [[0, 3, len(PLAIN)]] + EACH_ON_PLAIN + [[1]] + EACH_ON_SHORT + [[0, 2, 0]] + EACH_ON_SHORT
                         + [[1], row(BUYING)])

    def test_in_any_order(self):
        source = random.Random(26)
        for _ in range(20):
            places = source.choices(range(len(EACH)), k=60)
            self.assertEqual(run(load(PLAIN), *[EACH[k] for k in places])[1:], [EACH_ON_PLAIN[k] for k in places])

    def test_what_is_handed_in_is_not_changed(self):
        handed = list(ALL)
        first = answers(handed)
        self.assertEqual(handed, ALL)
        self.assertEqual(answers(handed), first)
        self.assertEqual(handed, ALL)

    def test_nothing_is_kept(self):
        for start in range(0, len(CALLS), 5):
            whole = run(*CALLS[start:])
            run(load(BUYING))
            self.assertEqual(run(*CALLS[start:]), whole)
        self.assertEqual(run(shown()), [[-1]])

    def test_what_is_given_back_is_its_own(self):
        first = answers(ALL)
        kept = list(first)
        first.clear()
        self.assertEqual(answers(ALL), kept)

    def test_whole_numbers_alone(self):
        told = answers(ALL)
        self.assertIs(type(told), list)
        self.assertEqual({type(number) for number in told}, {int})

    def test_400_calls(self):
        self.assertEqual(run(load(PLAIN), *[total(0, 64)] * 399)[1:], [[20 ** 63 * 277]] * 399)
        self.assertEqual(len(run(load(PLAIN), *[course(0, 64, 2 ** 120)] * 399)), 400)

    def test_one_text_of_8192_bytes(self):
        self.assertEqual(answers([0, 8192] + [32] * 8192), [3, 0, 1, 4096])
        long = [8192] + [32] * 8192
        self.assertEqual(run(load(PLAIN), [4, 0] + long, [6, 0, 1] + long, [7, 0] + long + [0], [7, 0, 0] + long,
                             [10, 0] + long, [11, 0, 1] + long, [12, 0] + long),
                         [[1], [-4], [-4], [-4], [-7], [-4], [-7], [0, 1, 4096]])

    def test_no_such_call(self):
        for number in [-1, -13, 13, 14]:
            with self.assertRaises(UnknownCall):
                answers(load(PLAIN) + [number, 0, 0, 0])

    def test_package(self):
        self.assertEqual(coursenumbers.__name__, "coursenumbers")
        self.assertEqual(coursenumbers.teller.answers, answers)


if __name__ == "__main__":
    unittest.main()
