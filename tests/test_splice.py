import unittest

from celltexts import cells
from tests.helper import FAULTY, HandedInCases, fault_of, form_of, splice_of, to_bytes

FAR = 10 ** 18

FORMS_A = ["do a;", "if b { do 1; do 2; }", "let c = 1 + 2 * 3;", "slider d = 0 in -1, 1;"]
TEXT_A = "# a\ndo(a);if b{do 1;do 2;} let c=1+(2*3);slider d=-0 in-1,1;# end"
FORMS_B = ["show x;", 'choice y = 0 in "p", "q";', "do fn () { give z; };"]
TEXT_B = '\nshow(x);choice y=0 in"p","q";do fn(){give(z);};'

LONG = "do 1+1;" * 85
FULL = "do 1;" * 99


def lines(*rows):
    return "\n".join(sum(rows, []))


class Cases(unittest.TestCase):
    def check(self, k, n, text_a, text_b, answer):
        with self.subTest(k=k, n=n, text_a=text_a, text_b=text_b):
            self.assertEqual(splice_of(k, n, text_a, text_b), answer)


class Answers(Cases):
    def test_as_numbers(self):
        self.assertEqual(
            cells.splice(1, 1, to_bytes("do 1;do 2;"), to_bytes("do(3) ;")),
            [11, 100, 111, 32, 49, 59, 10, 100, 111, 32, 51, 59],
        )
        self.assertEqual(cells.splice(0, 1, to_bytes("do 1;"), []), [0])

    def test_nothing_taken_out(self):
        self.check(0, 0, TEXT_A, TEXT_B, lines(FORMS_B, FORMS_A))
        self.check(1, 0, TEXT_A, TEXT_B, lines(FORMS_A[:1], FORMS_B, FORMS_A[1:]))
        self.check(2, 0, TEXT_A, TEXT_B, lines(FORMS_A[:2], FORMS_B, FORMS_A[2:]))
        self.check(3, 0, TEXT_A, TEXT_B, lines(FORMS_A[:3], FORMS_B, FORMS_A[3:]))
        self.check(4, 0, TEXT_A, TEXT_B, lines(FORMS_A, FORMS_B))

    def test_one_taken_out(self):
        self.check(0, 1, TEXT_A, TEXT_B, lines(FORMS_B, FORMS_A[1:]))
        self.check(1, 1, TEXT_A, TEXT_B, lines(FORMS_A[:1], FORMS_B, FORMS_A[2:]))
        self.check(3, 1, TEXT_A, TEXT_B, lines(FORMS_A[:3], FORMS_B))

    def test_several_taken_out(self):
        self.check(0, 2, TEXT_A, TEXT_B, lines(FORMS_B, FORMS_A[2:]))
        self.check(1, 2, TEXT_A, TEXT_B, lines(FORMS_A[:1], FORMS_B, FORMS_A[3:]))
        self.check(2, 2, TEXT_A, TEXT_B, lines(FORMS_A[:2], FORMS_B))
        self.check(1, 3, TEXT_A, TEXT_B, lines(FORMS_A[:1], FORMS_B))

    def test_all_taken_out(self):
        self.check(0, 4, TEXT_A, TEXT_B, lines(FORMS_B))
        self.check(0, 1, "do 1;", "do 2;", "do 2;")
        self.check(0, 120, "do 1;" * 120, "do 2;", "do 2;")

    def test_the_other_way_round(self):
        self.check(1, 1, TEXT_B, TEXT_A, lines(FORMS_B[:1], FORMS_A, FORMS_B[2:]))
        self.check(3, 0, TEXT_B, TEXT_A, lines(FORMS_B, FORMS_A))

    def test_a_text_with_itself(self):
        self.check(1, 2, TEXT_A, TEXT_A, lines(FORMS_A[:1], FORMS_A, FORMS_A[3:]))
        handed = to_bytes("do 1; do 2;")
        self.assertEqual(cells.splice(1, 0, handed, handed), cells.form(to_bytes("do 1; do 1; do 2; do 2;")))

    def test_an_empty_a(self):
        for text in ("", " ", "\n", "# do 1;", "# do 1;\n"):
            self.check(0, 0, text, TEXT_B, lines(FORMS_B))
            for k, n in ((0, 1), (1, 0), (-1, 0), (0, -1), (1, -1), (-1, 1)):
                self.check(k, n, text, TEXT_B, [-3])

    def test_an_empty_b(self):
        for text in ("", " ", "\n", "# do 1;", "# do 1;\n"):
            self.check(0, 1, TEXT_A, text, lines(FORMS_A[1:]))
            self.check(1, 1, TEXT_A, text, lines(FORMS_A[:1], FORMS_A[2:]))
            self.check(2, 2, TEXT_A, text, lines(FORMS_A[:2]))
            self.check(0, 4, TEXT_A, text, "")

    def test_both_empty(self):
        for text_a in ("", " \n", "# do 1;"):
            for text_b in ("", "\n ", "# do 2;"):
                self.check(0, 0, text_a, text_b, "")
                self.check(0, 1, text_a, text_b, [-3])

    def test_nothing_out_and_nothing_in_is_the_form(self):
        texts = ((TEXT_A, 4), (TEXT_B, 3), ("", 0), ("show 1;", 1), ("if a{}else{}if b{}", 2), (FULL + "do 12;", 100))
        for text, size in texts:
            for k in range(size + 1):
                self.check(k, 0, text, "", form_of(text))
            self.check(size + 1, 0, text, "", [-3])
            self.check(0, 0, text, "# x", form_of(text))
            self.check(0, 0, "# x", text, form_of(text))

    def test_statements_of_blocks_are_not_counted(self):
        self.check(1, 1, "if a{do 1;do 2;}else{do 3;}do 4;", "do 5;", "if a { do 1; do 2; } else { do 3; }\ndo 5;")
        self.check(0, 1, "do fn(){do 1;do 2;};do 3;", "do 4;", "do 4;\ndo 3;")
        self.check(0, 2, "while a{do 1;do 2;}", "do 4;", [-3])
        self.check(2, 0, "while a{do 1;do 2;}", "do 4;", [-3])

    def test_an_else_is_not_torn_off_and_a_comment_swallows_nothing(self):
        self.check(0, 1, "if a{}else{}do 1;", "if b{}", "if b {}\ndo 1;")
        self.check(1, 0, "if a{}if b{}else{}", "if c{}", "if a {}\nif c {}\nif b {} else {}")
        self.check(1, 0, "do 1;# x", "do 2;# y", "do 1;\ndo 2;")
        self.check(0, 0, "do 1;# x", "do 2;# y", "do 2;\ndo 1;")

    def test_depth_and_brackets_of_each_are_kept(self):
        deep = "do 1" + "+1" * 38 + ";"
        form = "do 1" + " + 1" * 38 + ";"
        self.check(1, 0, deep, deep, form + "\n" + form)
        nested = "do " + "[" * 24 + "]" * 24 + ";"
        self.check(0, 0, nested, nested, nested + "\n" + nested)


class Numbers(Cases):
    def test_below_nought(self):
        for k, n in ((-1, 0), (0, -1), (-1, -1), (-1, 1), (1, -1), (-1, 4), (-1, 5), (5, -1), (4, -1), (-2, 3), (3, -2)):
            self.check(k, n, TEXT_A, TEXT_B, [-3])
            self.check(k, n, TEXT_A, "", [-3])

    def test_at_the_number_of_statements_and_above(self):
        for k in range(5):
            self.check(k, 4 - k, TEXT_A, TEXT_B, lines(FORMS_A[:k], FORMS_B))
            self.check(k, 4 - k, TEXT_A, "", lines(FORMS_A[:k]))
            self.check(k, 5 - k, TEXT_A, TEXT_B, [-3])
            self.check(k, 5 - k, TEXT_A, "", [-3])
        self.check(5, 0, TEXT_A, TEXT_B, [-3])
        self.check(0, 5, TEXT_A, TEXT_B, [-3])

    def test_it_is_the_number_of_a_that_counts(self):
        self.check(2, 0, "do 1;", "do 2;do 3;do 4;", [-3])
        self.check(0, 2, "do 1;", "do 2;do 3;do 4;", [-3])
        self.check(2, 1, "do 2;do 3;do 4;", "do 1;", "do 2;\ndo 3;\ndo 1;")

    def test_far_numbers_in_all_ways(self):
        near = (-FAR, -FAR + 1, -FAR + 4, -2, -1, 0, 1, 4, FAR - 4, FAR - 1, FAR)
        for k in near:
            for n in near:
                if k < 0 or n < 0 or k + n > 4:
                    self.check(k, n, TEXT_A, TEXT_B, [-3])
        for k, n in ((FAR, -FAR), (-FAR, FAR), (FAR, 2 - FAR), (2 - FAR, FAR), (FAR - 1, 1 - FAR), (4 - FAR, FAR)):
            self.check(k, n, TEXT_A, TEXT_B, [-3])
            self.check(k, n, "", "", [-3])

    def test_every_k_and_n_that_is_near(self):
        for k in range(-3, 8):
            for n in range(-3, 8):
                fits = k >= 0 and n >= 0 and k + n <= 4
                answer = lines(FORMS_A[:k], FORMS_B, FORMS_A[k + n:]) if fits else [-3]
                self.check(k, n, TEXT_A, TEXT_B, answer)

    def test_every_k_and_n_of_ten_statements(self):
        forms = [f"do {number};" for number in range(10)]
        for k in range(11):
            for n in range(12 - k):
                answer = lines(forms[:k], FORMS_B, forms[k + n:]) if k + n <= 10 else [-3]
                self.check(k, n, "".join(forms), TEXT_B, answer)


class LongForms(Cases):
    def test_600_bytes_and_601(self):
        full = "\n".join(["do 1;"] * 99) + "\n"
        self.assertEqual(len(full), 594)
        self.check(99, 0, FULL, "do 12;", full + "do 12;")
        self.check(99, 0, FULL, "do 123;", [-4])
        self.check(0, 0, FULL, "do(12);", "do 12;\n" + full[:-1])
        self.check(0, 0, FULL, "do(123);", [-4])
        self.check(50, 1, FULL + "do 1;", "do 12;", lines(["do 1;"] * 50, ["do 12;"], ["do 1;"] * 49))
        self.check(50, 1, FULL + "do 1;", "do 123;", [-4])
        self.check(0, 0, FULL + "do 12;", "", full + "do 12;")
        self.check(0, 0, FULL + "do 123;", "", [-4])
        self.check(0, 0, "", FULL + "do 12;", full + "do 12;")
        self.check(0, 0, "", FULL + "do 123;", [-4])

    def test_one_statement_of_600_bytes_and_601(self):
        for size, answered in ((599, True), (600, True), (601, False), (602, False)):
            form = "do [" + ", ".join(["1"] * 195 + ["1" * (size - 591)]) + "];"
            self.assertEqual(len(form), size)
            self.check(0, 1, "do 1;", form.replace(" ", ""), form if answered else [-4])
            self.check(0, 1, "do 1;" + form.replace(" ", ""), "", form if answered else [-4])

    def test_own_forms_of_more_than_600_bytes(self):
        self.assertGreater(cells.form(to_bytes(LONG))[0], 600)
        self.check(0, 85, LONG, "do 1;", "do 1;")
        self.check(0, 85, LONG, "", "")
        self.check(1, 84, LONG, TEXT_B, lines(["do 1 + 1;"], FORMS_B))
        self.check(60, 25, LONG, "", "\n".join(["do 1 + 1;"] * 60))
        self.check(59, 26, LONG, "", "\n".join(["do 1 + 1;"] * 59))
        self.check(61, 24, LONG, "", [-4])
        self.check(0, 84, LONG, LONG, [-4])

    def test_own_forms_of_at_most_600_bytes(self):
        self.assertLessEqual(cells.form(to_bytes(FULL))[0], 600)
        self.check(99, 0, FULL, FULL, [-4])
        self.check(0, 98, FULL, FULL, "\n".join(["do 1;"] * 100))
        self.check(0, 97, FULL, FULL, [-4])
        self.check(0, 99, FULL, FULL, "\n".join(["do 1;"] * 99))

    def test_the_form_counts_not_the_texts(self):
        wide = "do (1) ;" + " " * 592
        self.assertEqual(len(wide), 600)
        self.check(1, 0, wide, wide, "do 1;\ndo 1;")

    def test_no_such_statements_goes_ahead(self):
        for k, n in ((-1, 0), (0, -1), (-1, -1), (86, 0), (85, 1), (0, 86), (FAR, FAR), (-FAR, FAR), (FAR, -FAR)):
            self.check(k, n, LONG, LONG, [-3])
            self.check(k, n, LONG, "", [-3])


class Refusals(Cases):
    numbers = ((0, 0), (0, 1), (-1, 0), (0, -1), (1, 1), (FAR, FAR), (-FAR, FAR))

    def test_more_than_600_bytes(self):
        good = "show 1;"
        for k, n in self.numbers:
            for size in (601, 2000):
                for sign in " \t$(a#":
                    for other in (good, "", " " * 600, "\t", "$", "show", "(" * 25, sign * size):
                        self.check(k, n, sign * size, other, [-1])
                        self.check(k, n, other, sign * size, [-1])
            self.check(k, n, good + " " * 594, good, [-1])
            self.check(k, n, good, good + " " * 594, [-1])
            self.check(k, n, good + " " * 594, good + " " * 594, [-1])
        self.check(0, 1, good + " " * 593, good + " " * 593, good)

    def test_not_good(self):
        for number, texts in FAULTY:
            for text in texts:
                self.assertEqual(fault_of(text)[0], number)
                for k, n in self.numbers:
                    self.check(k, n, text, "show 1;", [-2])
                    self.check(k, n, "show 1;", text, [-2])
                    self.check(k, n, text, "", [-2])
                    self.check(k, n, "", text, [-2])
                    self.check(k, n, text, text, [-2])

    def test_both_not_good(self):
        firsts = [texts[0] for number, texts in FAULTY]
        for text in firsts:
            for other in firsts:
                self.check(0, 0, text, other, [-2])
                self.check(-1, 0, text, other, [-2])

    def test_not_good_goes_ahead_of_a_long_form(self):
        self.check(0, 0, LONG, "show", [-2])
        self.check(0, 0, "show", LONG, [-2])

    def test_texts_that_are_good_together_alone(self):
        self.check(0, 0, "if a {", "}", [-2])
        self.check(1, 0, "if a {}", "else {}", [-2])
        self.check(1, 1, "do 1; $", "do 2;", [-2])


class HandedIn(HandedInCases, unittest.TestCase):
    handed = (
        (0, 0, "", ""), (0, 0, "show 1;", "show 2;"), (0, 1, "show 1;", "show 2;"), (1, 0, "show 1;", ""),
        (-1, 0, "show 1;", "show 2;"), (0, -1, "show 1;", "show 2;"), (FAR, -FAR, "show 1;", "show 2;"),
        (0, 0, "$", "show 1;"), (0, 0, "show 1;", "\t"), (0, 0, "", "(" * 25), (0, 0, " " * 601, "show 1;"),
        (0, 0, "show 1;", " " * 601), (0, 0, "show (", "do 1" + "+1" * 50 + ";"), (1, 2, TEXT_A, TEXT_B),
        (1, 1, TEXT_B, TEXT_A), (0, 0, LONG, LONG), (0, 85, LONG, TEXT_A), (4, 0, TEXT_A, TEXT_A),
    )

    def call(self, k, n, text_a, text_b):
        return cells.splice(k, n, text_a, text_b)


if __name__ == "__main__":
    unittest.main()
