import unittest

from celltexts import cells
from tests.helper import FAULTY, HandedInCases, fault_of, form_of, to_bytes, tree_of

A = [6, 1, 97]
B = [6, 1, 98]
C = [6, 1, 99]

BETWEEN = {
    "or": 0, "and": 1, "==": 2, "!=": 3, "<": 4, "<=": 5, ">": 6, ">=": 7, "++": 8, "+": 9, "-": 10, "*": 11, "/": 12,
    "%": 13,
}


def said(text):
    return [len(text)] + to_bytes(text)


class Cases(unittest.TestCase):
    def check(self, cases):
        for text, numbers in cases:
            with self.subTest(text=text):
                self.assertEqual(tree_of(text), numbers)

    def check_shown(self, cases):
        self.check([(f"show {text};", [1, 22] + numbers) for text, numbers in cases])

    def check_same(self, *texts):
        self.assertGreater(tree_of(texts[0])[0], 0)
        self.check([(text, tree_of(texts[0])) for text in texts])


class Programs(Cases):
    def test_the_documents_example(self):
        self.assertEqual(cells.tree(to_bytes("show -a.b;")), [9, 1, 22, 9, 15, 6, 1, 97, 1, 98])

    def test_no_statements(self):
        self.assertEqual(cells.tree([]), [1, 0])
        self.check([(text, [0]) for text in ("", " \n", "# show 1;", " " * 600)])

    def test_several_statements(self):
        self.check((
            ("show a;table b;\n# x\n do c;", [3, 22] + A + [23] + B + [26] + C),
            ("do 1;" * 120, [120] + [26, 1, 1] * 120),
        ))

    def test_blanks_and_comments_do_not_count(self):
        self.check_same("let x = a + 1;", "let x=a+1;", "# y\nlet x # z\n=\n\na + # ;\n 1 ; # end", "let\nx=\na+1;\n")

    def test_the_form_has_the_same_tree(self):
        for text in ("if(a or (b or c)){show((1+2)+3);}# x", "do((fn(a){give(a);})(1))[(2)].x;", "show(-(-(1)));"):
            self.check_same(text, form_of(text))


class Statements(Cases):
    def test_with_a_name(self):
        self.check((
            ("let x = a;", [1, 20] + said("x") + A),
            ("set xy_1 = a;", [1, 21] + said("xy_1") + A),
            (f"let {'x' * 16} = a;", [1, 20] + said("x" * 16) + A),
        ))

    def test_with_an_expression_alone(self):
        for number, word in enumerate(("show", "table", "plot", "check", "do", "give"), start=22):
            self.check(((f"{word} a;", [1, number] + A), (f"{word}(a+b);", [1, number, 11, 9] + A + B)))

    def test_if(self):
        self.check((
            ("if a {}", [1, 28] + A + [0]),
            ("if a {} else {}", [1, 29] + A + [0, 0]),
            ("if a { show b; }", [1, 28] + A + [1, 22] + B),
            ("if a { show b; } else {}", [1, 29] + A + [1, 22] + B + [0]),
            ("if a {} else { show b; }", [1, 29] + A + [0, 1, 22] + B),
            ("if a { show b; do c; } else { do a; }", [1, 29] + A + [2, 22] + B + [26] + C + [1, 26] + A),
            ("if a { if b {} } else { if c {} else {} }", [1, 29] + A + [1, 28] + B + [0, 1, 29] + C + [0, 0]),
        ))

    def test_loops(self):
        self.check((
            ("while a {}", [1, 30] + A + [0]),
            ("while a { show b; show c; }", [1, 30] + A + [2, 22] + B + [22] + C),
            ("for x in a {}", [1, 31] + said("x") + A + [0]),
            ("for xy in a { while b {} }", [1, 31] + said("xy") + A + [1, 30] + B + [0]),
        ))

    def test_sliders(self):
        big = int("9" * 30)
        self.check((
            ("slider x = 3 in -5, 10;", [1, 32] + said("x") + [3, -5, 10]),
            ("slider x = -1 in 2, -3;", [1, 32] + said("x") + [-1, 2, -3]),
            ("slider x = - 1 in - # y\n 2, 3;", [1, 32] + said("x") + [-1, -2, 3]),
            ("slider x = -0 in -0, -0;", [1, 32] + said("x") + [0, 0, 0]),
            ("slider x = 0 in 0, 0;", [1, 32] + said("x") + [0, 0, 0]),
            (f"slider x = -{big} in {big}, -{big};", [1, 32] + said("x") + [-big, big, -big]),
        ))

    def test_choices(self):
        self.check((
            ('choice x = 0 in "a";', [1, 33] + said("x") + [0, 1] + said("a")),
            ('choice xy = 12 in "a", "", "bc";', [1, 33] + said("xy") + [12, 3] + said("a") + [0] + said("bc")),
            ('choice x = 1 in "\\n\\\\", "\\"";', [1, 33] + said("x") + [1, 2, 2, 10, 92, 1, 34]),
            (f'choice x = {"9" * 30} in "";', [1, 33] + said("x") + [int("9" * 30), 1, 0]),
        ))


class Expressions(Cases):
    def test_numbers(self):
        self.check_shown([(digits, [1, int(digits)]) for digits in ("0", "7", "10", "9" * 30, "1" + "0" * 29)])

    def test_quoted_texts(self):
        self.check_shown((
            ('""', [2, 0]),
            ('"a"', [2, 1, 97]),
            ('"\\\\"', [2, 1, 92]),
            ('"\\""', [2, 1, 34]),
            ('"\\n"', [2, 1, 10]),
            ('"\\\\\\"\\n"', [2, 3, 92, 34, 10]),
            ('"\\\\n"', [2, 2, 92, 110]),
            ('"a # b"', [2] + said("a # b")),
            ('"12"', [2] + said("12")),
        ))

    def test_truths_and_nothing(self):
        self.check_shown((("yes", [3]), ("no", [4]), ("none", [5])))

    def test_names(self):
        self.check_shown([(name, [6] + said(name)) for name in ("a", "_", "Yes", "aB_9", "x" * 16, "percent")])

    def test_lists_and_records(self):
        self.check_shown((
            ("[]", [7, 0]),
            ("[a]", [7, 1] + A),
            ("[a, 1, []]", [7, 3] + A + [1, 1, 7, 0]),
            ("(:)", [8, 0]),
            ("(x: a)", [8, 1] + said("x") + A),
            ("(yx: a, x: (:), yx: 1)", [8, 3] + said("yx") + A + said("x") + [8, 0] + said("yx") + [1, 1]),
        ))

    def test_minus_and_not(self):
        self.check_shown((
            ("-a", [9] + A),
            ("-0", [9, 1, 0]),
            ("-(-1)", [9, 9, 1, 1]),
            ("not a", [10] + A),
            ("not (not a)", [10, 10] + A),
            ("not -a == b", [10, 11, 2, 9] + A + B),
        ))

    def test_between_two(self):
        self.assertEqual(sorted(BETWEEN.values()), list(range(14)))
        for sign, number in BETWEEN.items():
            self.check_shown(((f"a {sign} b", [11, number] + A + B), (f"b {sign} (a)", [11, number] + B + A)))

    def test_choosing(self):
        self.check_shown((
            ("a ? b : c", [12] + A + B + C),
            ("(a ? b : c) ? a : (b ? c : a)", [12, 12] + A + B + C + A + [12] + B + C + A),
        ))

    def test_reached(self):
        self.check_shown((
            ("a()", [13] + A + [0]),
            ("a(b)", [13] + A + [1] + B),
            ("a(b, 1, c)", [13] + A + [3] + B + [1, 1] + C),
            ("a[b]", [14] + A + B),
            ("a.xy", [15] + A + said("xy")),
            ("a(b)[1].y", [15, 14, 13] + A + [1] + B + [1, 1] + said("y")),
            ("(-a).x", [15, 9] + A + said("x")),
            ("-a(b)", [9, 13] + A + [1] + B),
        ))

    def test_built_in_words(self):
        for number, word in enumerate(("len", "keys", "text", "num", "roll")):
            self.check_shown(((f"{word}(a)", [16, number, 1] + A), (f"{word}([])", [16, number, 1, 7, 0])))
        for number, word in enumerate(("cut", "with"), start=5):
            self.check_shown(((f"{word}(a, b, c)", [16, number, 3] + A + B + C),))

    def test_functions(self):
        self.check_shown((
            ("fn () {}", [17, 0, 0]),
            ("fn (x) {}", [17, 1] + said("x") + [0]),
            ("fn (x, yz) { give a; do b; }", [17, 2] + said("x") + said("yz") + [2, 27] + A + [26] + B),
            ("fn f() {}", [18] + said("f") + [0, 0]),
            ("fn fg(x, x) { give a; }", [18] + said("fg") + [2] + said("x") * 2 + [1, 27] + A),
            ("fn () { do fn f() {}; }", [17, 0, 1, 26, 18] + said("f") + [0, 0]),
            ("fn (a) {}(b)", [13, 17, 1, 1, 97, 0, 1] + B),
        ))


class Joining(Cases):
    def test_from_the_left(self):
        lines = (("or",), ("and",), ("++",), ("+", "-"), ("*", "/", "%"))
        for line in lines:
            for first in line:
                for second in line:
                    left = [11, BETWEEN[second], 11, BETWEEN[first]] + A + B + C
                    right = [11, BETWEEN[first]] + A + [11, BETWEEN[second]] + B + C
                    self.check_shown((
                        (f"a {first} b {second} c", left),
                        (f"(a {first} b) {second} c", left),
                        (f"a {first} (b {second} c)", right),
                    ))

    def test_the_stronger_line_first(self):
        lines = (("or",), ("and",), ("==", "!=", "<", "<=", ">", ">="), ("++",), ("+", "-"), ("*", "/", "%"))
        for at, weak_line in enumerate(lines):
            for strong_line in lines[at + 1:]:
                for weak in weak_line:
                    for strong in strong_line:
                        self.check_shown((
                            (f"a {weak} b {strong} c", [11, BETWEEN[weak]] + A + [11, BETWEEN[strong]] + B + C),
                            (f"a {strong} b {weak} c", [11, BETWEEN[weak], 11, BETWEEN[strong]] + A + B + C),
                        ))

    def test_a_long_row(self):
        self.check_shown((("1" + "+1" * 38, [11, 9] * 38 + [1, 1] * 39),))
        self.check_shown((("a" + ".b" * 38, [15] * 38 + A + said("b") * 38),))

    def test_brackets_that_change_nothing(self):
        self.check_same("show a + b;", "show (a) + (b);", "show ((a + b));", "show(a+b);")
        self.check_same("show a or b and c;", "show a or (b and c);", "show ((a) or ((b) and (c)));")
        self.check_same("show f(x)[1].y;", "show (((f)((x)))[(1)]).y;")
        self.check_same("show (x: 1);", "show ((x: (1)));")
        self.check_same("if a {}", "if (a) {}", "if ((a)) {}")
        self.check_shown((("(" * 24 + "a" + ")" * 24, A),))


class Refusals(Cases):
    def test_each_fault(self):
        for number, texts in FAULTY:
            for text in texts:
                self.assertEqual(fault_of(text)[0], number)
                self.check(((text, [-2]),))

    def test_depth_40_is_told(self):
        self.check((("do 1" + "+1" * 38 + ";", [1, 26] + [11, 9] * 38 + [1, 1] * 39),))
        self.check((("do fn(){" * 20 + "};" * 20, [1] + [26, 17, 0, 1] * 19 + [26, 17, 0, 0]),))

    def test_more_than_600_bytes(self):
        self.check((("show 1;" + " " * 593, [1, 22, 1, 1]), ("show 1;" + " " * 594, [-1])))
        self.check([(sign * size, [-1]) for sign in " \t$(a#" for size in (601, 602, 2000)])


class HandedIn(HandedInCases, unittest.TestCase):
    handed = [(text,) for text in (
        "", "show 1;", "$", "\t", "(" * 25, "show (", 'choice x = 0 in "a\\n";', "let name = other; # x", " " * 601,
        "for x in fn f(a, b) { set a = r.x; } { slider y = 1 in 2, 3; }", "do (name: [name, name.name(name)]);",
    )]

    def call(self, text):
        return cells.tree(text)


if __name__ == "__main__":
    unittest.main()
