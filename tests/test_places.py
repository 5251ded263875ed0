import unittest

from celltexts import cells
from tests.helper import FAULTY, HandedInCases, fault_of, places_of, to_bytes

# Statements with their depths.
STATEMENTS = (
    ("let x = 1;", 2), ("let x = a + 1;", 3), ("set x = [];", 2), ("set x = [1];", 3),
    ("show a;", 2), ("table a.b;", 3), ("plot a.b.c;", 4), ("check -a;", 3), ("do a();", 3), ("give (((a)));", 2),
    ("if a {}", 2), ("if a {} else {}", 2), ("if a.b {}", 3), ("if a { show 1; }", 3), ("if a {} else { show 1; }", 3),
    ("if a { show 1; } else { show 1 + 1; }", 4), ("if a { show 1 + 1; } else { show 1; }", 4),
    ("if a.b.c { show 1; } else {}", 4), ("if a { if b { if c {} } }", 4), ("while a {}", 2),
    ("while a.b.c { do 1; }", 4), ("while a { do 1; do 1 + 1; do 1; }", 4), ("for x in y {}", 2),
    ("for x in a.b { show 1; }", 3), ("for x in y { while a {} }", 3), ("slider x = 3 in -5, 10;", 1),
    ("slider x = - 0 in - 0, - 0;", 1), ('choice x = 0 in "a";', 1), ('choice x = 0 in "a", "b", "c";', 1),
    ("if a { slider x = 1 in 1, 1; }", 2), ('if a.b { choice x = 1 in ""; }', 3),
)

# Expressions with their depths.
EXPRESSIONS = (
    ("1", 1), ('"a"', 1), ("yes", 1), ("no", 1), ("none", 1), ("a", 1), ("[]", 1), ("[a]", 2), ("[a, b.c, d]", 3),
    ("(:)", 1), ("(x: a)", 2), ("(x: a, y: b.c)", 3), ("((a))", 1), ("-a", 2), ("-(-a)", 3), ("not a", 2),
    ("not (not a)", 3), ("a + b", 2), ("a + b + c", 3), ("a + (b + c)", 3), ("a + b * c", 3), ("(a + b) * (c + d)", 3),
    ("a or b and c", 3), ("a ? b : c", 2), ("a.b ? c : d", 3), ("a ? b.c : d", 3), ("a ? b : c.d", 3), ("a()", 2),
    ("a(b)", 2), ("a.b(c)", 3), ("a(b, c.d)", 3), ("a[b]", 2), ("a[b.c]", 3), ("a.b[c]", 3), ("a.b", 2), ("a.b.c", 3),
    ("len(a)", 2), ("keys(-a)", 3), ("cut(a, b, c)", 2), ("with(a, b, c.d)", 3), ("fn () {}", 1), ("fn f(a, b) {}", 1),
    ("fn () { show 1; }", 3), ("fn f() { slider x = 1 in 1, 1; }", 2), ("fn () { do fn () { do 1; }; }", 5),
    ("fn () { do 1; if a.b.c {} do 2; }", 5),
)


class Cases(unittest.TestCase):
    def check(self, cases):
        for text, answer in cases:
            with self.subTest(text=text):
                self.assertEqual(places_of(text), answer)


class Answers(Cases):
    def test_as_numbers(self):
        self.assertEqual(cells.places([]), [0])
        self.assertEqual(cells.places(to_bytes("show 1; slider x = 1 in 2, 3;")), [2, 0, 7, 2, 8, 29, 1])

    def test_no_statements(self):
        self.check([(text, []) for text in ("", " ", "\n \n", "#", "# show 1;", "# x\n", " " * 600, "#" * 600)])

    def test_blanks_and_comments(self):
        self.check((
            ("show 1;", [(0, 7, 2)]),
            (" show 1;", [(1, 8, 2)]),
            ("\n\n show 1; \n", [(3, 10, 2)]),
            ("show 1 ;", [(0, 8, 2)]),
            ("show\n\n1\n;\n", [(0, 9, 2)]),
            ("# show 2;\nshow 1;", [(10, 17, 2)]),
            ("show # show 2;\n1;", [(0, 17, 2)]),
            ("show 1 # ;\n;", [(0, 12, 2)]),
            ("show 1;# show 2;", [(0, 7, 2)]),
            ("show 1;#", [(0, 7, 2)]),
            ("show 1; # x\n# y\n  ", [(0, 7, 2)]),
            (" # a\n show # b\n 1 # c\n ; # d\n ", [(6, 24, 2)]),
            ("if a { # x\n }# y", [(0, 13, 2)]),
            ("if a {} # else {}", [(0, 7, 2)]),
            ("if a {}# x\nelse # y\n{ # z\n}#", [(0, 27, 2)]),
            ('choice x = 0 in "#;"#;', [-2]),
            ('choice x = 0 in "#;";#;', [(0, 21, 1)]),
        ))

    def test_several_statements(self):
        self.check((
            ("show 1;show 2;", [(0, 7, 2), (7, 14, 2)]),
            ("if a{}show 2;", [(0, 6, 2), (6, 13, 2)]),
            ("if a{}else{}if b{}", [(0, 12, 2), (12, 18, 2)]),
            ("if a{}if b{}else{}", [(0, 6, 2), (6, 18, 2)]),
            ("show 1; # x\n\nshow 2 ;# y\nshow 3;", [(0, 7, 2), (13, 21, 2), (25, 32, 2)]),
            ("show fn () { show 1; }; show 2;", [(0, 23, 4), (24, 31, 2)]),
            ("do 1;" * 120, [(at * 5, at * 5 + 5, 2) for at in range(120)]),
        ))

    def test_statements_of_blocks_are_not_counted(self):
        self.check((
            ("if a { show 1; show 2; } else { show 3; }", [(0, 41, 3)]),
            ("while a { while b { show 1; } } show 2;", [(0, 31, 4), (32, 39, 2)]),
            ("show 1; for x in y { show 2; show 3; } show 4;", [(0, 7, 2), (8, 38, 3), (39, 46, 2)]),
            ("if fn () { give 1; }() { show 2; }", [(0, 34, 5)]),
        ))


class Depths(Cases):
    def test_each_kind_of_statement(self):
        for text, depth in STATEMENTS:
            size = len(text)
            self.check((
                (text, [(0, size, depth)]),
                (f"do 1;{text}do 2;", [(0, 5, 2), (5, 5 + size, depth), (5 + size, 10 + size, 2)]),
                (f"\n{text}# x\n{text}", [(1, 1 + size, depth), (5 + size, 5 + 2 * size, depth)]),
            ))

    def test_each_kind_of_expression(self):
        for text, depth in EXPRESSIONS:
            for before, behind in (("show ", ";"), ("let x = ", ";"), ("if ", " {}"), ("while ", "{}"), ("for x in ", "{}")):
                whole = before + text + behind
                self.check(((whole, [(0, len(whole), depth + 1)]),))

    def test_depth_40(self):
        self.check((
            ("do 1" + "+1" * 38 + ";", [(0, 81, 40)]),
            ("do a" + ".b" * 38 + ";do 1;", [(0, 81, 40), (81, 86, 2)]),
            ("do fn(){" * 20 + "};" * 20, [(0, 200, 40)]),
            ("if a {do " + "a" + ".b" * 37 + ";}", [(0, 86, 40)]),
            ("do 1" + "+1" * 39 + ";", [-2]),
            ("do fn(){" * 20 + "do 1;" + "};" * 20, [-2]),
            ("do 1; do 1" + "+1" * 39 + ";", [-2]),
        ))

    def test_each_statement_has_its_own(self):
        texts = [f"do {'.'.join(['a'] * size)};" for size in (1, 39, 7, 20)]
        starts = [len("".join(texts[:at])) for at in range(5)]
        self.check((("".join(texts), list(zip(starts, starts[1:], (2, 40, 8, 21)))),))


class Refusals(Cases):
    def test_each_fault(self):
        for number, texts in FAULTY:
            for text in texts:
                self.assertEqual(fault_of(text)[0], number)
                self.check(((text, [-2]),))

    def test_good_statements_before_a_fault_are_not_told(self):
        self.check([("show 1; show 2; " + text, [-2]) for text in ("\t", "$", "(" * 25, "show", "do a" + ".b" * 39 + ";")])

    def test_more_than_600_bytes(self):
        self.check((
            ("show 1;" + " " * 593, [(0, 7, 2)]),
            (" " * 593 + "show 1;", [(593, 600, 2)]),
            ("show 1;" + " " * 594, [-1]),
        ))
        self.check([(sign * size, [-1]) for sign in " \t$(a#" for size in (601, 602, 2000)])


class HandedIn(HandedInCases, unittest.TestCase):
    handed = [(text,) for text in (
        "", "show 1;", "$", "\t", "(" * 25, "show (", "do 1" + "+1" * 50 + ";", 'choice x = 0 in "a\\n";', " " * 601,
        "for x in fn f(a, b) { set a = r.x; } { slider y = 1 in 2, 3; } do 1; # x", "if a {} else {} if b {}",
    )]

    def call(self, text):
        return cells.places(text)


if __name__ == "__main__":
    unittest.main()
