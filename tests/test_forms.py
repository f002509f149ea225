import random
import unittest

from tests import model
from tests.calling import BUYING, course, later, on, rank, row, shown, words_of


# The same tokens with other blanks between them.
def loosely(text, source):
    told = ""
    quoted = False
    for at, sign in enumerate(text):
        if sign == '"' and not (quoted and escaped(text, at)):
            quoted = not quoted
        told += sign
        if not quoted and (sign in ",;(){}[]=\n " or text[at + 1:at + 2] in tuple(",;(){}[]=")):
            told += source.choice(["", " ", "\t", "\n", "  ", "# ; \"\n", "#\n"])
    return told


def escaped(text, at):
    count = 0
    while text[at - 1 - count] == "\\":
        count += 1
    return count % 2 == 1


class PartForm(unittest.TestCase):
    def test_document(self):
        self.assertEqual(words_of(on(BUYING, shown())[0]), BUYING)
        self.assertEqual(on(BUYING, shown())[0], row(BUYING))

    def test_written_otherwise(self):
        other = ("part Buying#x\nof Buyer start Ask Ask=send Buyer->Shop{want(text 20,num 1 9)Price;bye()[Key]Done}"
                 "Price = recv\tBuyer <-Shop { price ( num 0 500 ) Ask;none()Ask } Done=stop#")
        self.assertEqual(words_of(on(other, shown())[0]), BUYING)

    def test_every_piece(self):
        text = ("part P of A\nstart T\n"
                "S = recv x <- y { b(num -1000000000 -7, flag, text 0, text 255)[K, L] S ; a()[M] T ; B(flag) S }\n"
                "T = stop\n"
                "U = send B -> A { a() U }\n")
        self.assertEqual(words_of(on(text, shown())[0]), text)

    def test_some_parts_written_somehow(self):
        source = random.Random(1)
        for _ in range(60):
            text = model.part_text(model.some_part(source))
            self.assertEqual(words_of(on(loosely(text, source), shown())[0]), text)

    def test_a_form_is_its_own_form(self):
        source = random.Random(2)
        for _ in range(20):
            text = model.part_text(model.some_part(source))
            once = words_of(on(text, shown())[0])
            self.assertEqual(words_of(on(once, shown())[0]), once)


class CourseForm(unittest.TestCase):
    def form(self, part, text):
        return words_of(on(part, later(0, 0, text))[0])

    def test_every_byte_in_a_text(self):
        part = "part P of A start S S = send A -> B { a(text 1) S }"
        for byte in range(256):
            plain = model.quoted(bytes([byte]))
            one_form = f"a({plain}) ;\n"
            written = [plain, f'"\\x{byte:02x}"']
            if byte not in b'"\\\n':
                written.append('"' + chr(byte) + '"')
            for value in written:
                told = on(part, rank(0, f"a({value});"), later(0, 0, f"a({value});"))
                self.assertEqual(told[0], [1 + byte], value)
                self.assertEqual(words_of(told[1]), one_form)
            self.assertEqual(words_of(on(part, course(0, 1, 1 + byte))[0]), one_form)

    def test_edges_of_what_stands_as_it_is(self):
        part = "part P of A start S S = send A -> B { a(text 9) S }"
        self.assertEqual(self.form(part, 'a("\\x1f\\x20\\x7e\\x7f\\x80\\x0a\\x22\\x5c");'),
                         'a("\\x1f ~\\x7f\\x80\\n\\"\\\\") ;\n')

    def test_values_and_seats(self):
        part = ("part P of A start S "
                "S = send A -> B { a(flag, num -9 9, text 2, flag)[K, L] S ; b()[M] S ; c(num 0 0) S }")
        written = 'a(true,-7,"",false)[K,L];b()[M];#x\nc(0);b ( ) [ M ] ; a(false\t,0 ,"x ",true)[ K , L ];'
        self.assertEqual(self.form(part, written),
                         'a(true, -7, "", false)[K, L] ;\nb()[M] ;\nc(0) ;\nb()[M] ;\n'
                         'a(false, 0, "x ", true)[K, L] ;\n')

    def test_no_message(self):
        self.assertEqual(on("part P of A start S S = stop", later(0, 0, ""), later(0, 0, " # a\n"), course(0, 0, 0)),
                         [[0], [0], [0]])

    def test_longer_than_a_text_may_be(self):
        label, seats = "a" * 14, "[" + "K" * 16 + ", " + "L" * 16 + "]"
        part = f"part P of A start S S = send A -> B {{ {label}(num -1000000000 0){seats} S }}"
        told = words_of(on(part, course(0, 64, 0))[0])
        self.assertEqual(told, f"{label}(-1000000000){seats} ;\n" * 64)
        self.assertGreater(len(told), 4096)
        self.assertEqual(on(part, rank(0, told)), [[-4]])
        self.assertEqual(on(part, rank(0, told.replace(" ;\n", ";").replace(", ", ","))), [[0]])

    def test_some_courses_written_somehow(self):
        source = random.Random(3)
        part = "part P of A start S S = send A -> B { a(text 40, num -99 99)[K] S ; b(flag, text 3)[L, M] S ; c() S }"
        for _ in range(60):
            messages = []
            for _ in range(source.randint(0, 4)):
                few = bytes(source.randrange(256) for _ in range(source.randint(0, 40)))
                messages.append(source.choice([
                    ("a", (few, source.randint(-99, 99)), ("K",)),
                    ("b", (source.random() < 0.5, few[:3]), ("L", "M")),
                    ("c", (), ())]))
            text = model.course_text(messages)
            self.assertEqual(self.form(part, loosely(text, source)), text)


if __name__ == "__main__":
    unittest.main()
