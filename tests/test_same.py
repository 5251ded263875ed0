import unittest

from celltexts import cells
from tests.helper import FAULTY, HandedInCases, fault_of, same_of, to_bytes

# Programs of which no two are the same.
UNLIKE = (
    "", "show 1;", "show 1; show 1;", "show 2;", "show -1;", "show 11;", "show a;", "show b;", "show A;", "show ab;",
    'show "1";', 'show "a";', 'show "";', 'show " ";', 'show "a ";', 'show "\\n";', 'show "n";', 'show "\\\\n";',
    'show "\\"";', 'show "\\\\";', "show yes;", "show no;", "show none;", "table 1;", "plot 1;", "check 1;", "do 1;",
    "give 1;", "let x = 1;", "set x = 1;", "let y = 1;", "let x = 2;",
    "show [];", "show [1];", "show [1, 1];", "show [[1]];", "show [[1], 1];", "show [1, [1]];", "show [[], []];",
    "show (:);", "show (x: 1);", "show (y: 1);", "show (x: 1, y: 1);", "show (y: 1, x: 1);", "show (x: 1, x: 1);",
    "show (x: 1, y: 2);", "show (y: 2, x: 1);", "show (x: 2, y: 1);", "show (x: (x: 1));", "show [(x: 1)];",
    "show 1 - 2;", "show 1 + -2;", "show 1 + 2;", "show 2 + 1;", "show 1 * 2;", "show 1 / 2;", "show 1 % 2;",
    "show 1 ++ 2;", "show 1 == 2;", "show 1 != 2;", "show 1 < 2;", "show 1 <= 2;", "show 1 > 2;", "show 1 >= 2;",
    "show 2 > 1;", "show 1 or 2;", "show 1 and 2;", "show not 1;", "show not (not 1);", "show -(-1);", "show 0;",
    "show -0;", "show 0 - 0;", "show a + b + c;", "show a + (b + c);", "show a - b - c;", "show a - (b - c);",
    "show a or b or c;", "show a or (b or c);", "show a and b or c;", "show a and (b or c);", "show (-a).b;",
    "show -a.b;", "show not a == b;", "show (not a) == b;", "show a ? b : c;", "show a ? c : b;",
    "show (a ? b : c) ? d : e;", "show a ? b : (c ? d : e);", "show a ? (b ? c : d) : e;",
    "show a();", "show a(b);", "show a(b, b);", "show a(b)(b);", "show a([b]);", "show a[b];", "show a.b;",
    "show a.b.b;", "show a[b][b];", "show a[b[b]];", "show a(b(b));", "show len(a);", "show keys(a);", "show text(a);",
    "show num(a);", "show roll(a);", "show cut(a, b, c);", "show with(a, b, c);", "show cut(a, c, b);",
    "show fn () {};", "show fn f() {};", "show fn g() {};", "show fn (f) {};", "show fn f(f) {};", "show fn (f, f) {};",
    "show fn () { show 1; };", "show fn () { show 1; show 1; };", "show fn (a, b) {};", "show fn (b, a) {};",
    "if a {}", "if a {} else {}", "if b {}", "while a {}", "for x in a {}", "for y in a {}", "for x in b {}",
    "if a { show 1; }", "if a { show 1; } else {}", "if a {} else { show 1; }", "if a { show 1; } else { show 1; }",
    "if a {} show 1;", "show 1; if a {}", "if a { if b {} }", "if a {} if b {}", "while a { show 1; }",
    "while a {} show 1;", "slider x = 0 in 0, 0;", "slider y = 0 in 0, 0;", "slider x = 1 in 0, 0;",
    "slider x = 0 in 1, 0;", "slider x = 0 in 0, 1;", "slider x = -1 in 0, 0;", "slider x = 0 in -1, 0;",
    "slider x = 0 in 0, -1;", 'choice x = 0 in "a";', 'choice y = 0 in "a";', 'choice x = 1 in "a";',
    'choice x = 0 in "b";', 'choice x = 0 in "a", "a";', 'choice x = 0 in "a", "b";', 'choice x = 0 in "b", "a";',
    'choice x = 0 in "ab";', 'choice x = 0 in "a", "";', 'choice x = 0 in "", "a";',
    f"show {'9' * 30};", f"show {'9' * 29}8;", f"show {'x' * 16};", f"show {'x' * 15};",
)

# In each row, texts of one program.
ALIKE = (
    ("", " ", "\n", "# x", "#\n # y\n", " " * 600, "#" * 600),
    ("show 1;", " show\n1 ; ", "show 1;# x", "# x\nshow # 2\n1# ;\n;", "show(1);", "show((1));", "show 1;" + " " * 593),
    ("let x = a + b * c;", "let x=a+b*c;", "let x = a + (b * c);", "let x = ((a) + ((b) * (c)));"),
    ("show a - b + c;", "show (a - b) + c;", "show ((a-b)+c);"),
    ("show a or b or c;", "show (a or b) or c;", "show ((a or b)) or (c);"),
    ("show f(x)[1].y;", "show (f(x))[1].y;", "show ((f)(x)[(1)]) . y;"),
    ("show not a == b;", "show not (a == b);", "show (not (a) == (b));"),
    ("show -a.b;", "show -(a.b);", "show - a . b;", "show (-(a).b);"),
    ("show a ? b : c;", "show (a) ? (b) : (c);", "show (a?b:c);"),
    ("show (x: 1, y: 2);", "show ((x:(1),y:(2)));"),
    ("if a {} else {}", "if(a){}else{}", "if a { # x\n } else { }"),
    ("if a or (b or c) { show 1 + 2 + 3; }", "if(a or (b or c)){show((1+2)+3);}# x"),
    ("slider x = 0 in 0, 0;", "slider x = -0 in 0, 0;", "slider x = 0 in -0, 0;", "slider x = 0 in 0, - 0;",
     "slider x=-0 in-0,-0;"),
    ("slider x = -1 in 0, 5;", "slider x = - 1 in -0, 5;"),
    ('show "a\\n";', 'show ("a\\n") ;'),
    ("show 1; show 2;", "show 1;show 2;", "show 1;\n# x\nshow 2;\n"),
)


class Cases(unittest.TestCase):
    def check(self, text_a, text_b, answer):
        with self.subTest(a=text_a, b=text_b):
            self.assertEqual(same_of(text_a, text_b), answer)
            self.assertEqual(same_of(text_b, text_a), answer)


class Answers(Cases):
    def test_the_documents_differences(self):
        self.check("show (x: 1, y: 2);", "show (y: 2, x: 1);", [0])
        self.check("if a {}", "if a {} else {}", [0])
        self.check("show 1 - 2;", "show 1 + -2;", [0])

    def test_texts_of_one_program(self):
        for row in ALIKE:
            for text_a in row:
                for text_b in row:
                    self.check(text_a, text_b, [1])

    def test_texts_of_different_rows(self):
        for at, row in enumerate(ALIKE):
            for other in ALIKE[at + 1:]:
                self.check(row[-1], other[-1], [0])

    def test_programs_of_which_no_two_are_the_same(self):
        for at, text in enumerate(UNLIKE):
            self.assertEqual(fault_of(text), [0], text)
            self.check(text, text, [1])
            for other in UNLIKE[at + 1:]:
                self.assertEqual(same_of(text, other), [0], (text, other))

    def test_empty_programs(self):
        self.assertEqual(cells.same([], []), [1])
        self.check("", "# x", [1])
        self.check("", "show 1;", [0])
        self.check("# show 1;", "show 1;", [0])

    def test_minus_nought_counts_outside_of_sliders(self):
        self.check("show -0;", "show 0;", [0])
        self.check("slider x = -0 in 0, 0;", "slider x = 0 in 0, 0;", [1])

    def test_one_statement_more(self):
        for text in ("show 1;", "if a {}", 'choice x = 0 in "a";'):
            self.check(text, text + text, [0])
            self.check(text + text, text + " " + text, [1])
            self.check(text, text + "do 1;", [0])
            self.check(text, "do 1;" + text, [0])
            self.check("do 1;" + text, text + "do 1;", [0])

    def test_a_text_with_itself(self):
        handed = to_bytes("show f(1, 2); if a {} else {}")
        self.assertEqual(cells.same(handed, handed), [1])

    def test_as_deep_and_as_long_as_can_be(self):
        deep = "do 1" + "+1" * 38 + ";"
        self.check(deep, deep.replace("+", " + "), [1])
        self.check(deep, deep[:-2] + "2;", [0])
        many = "do 1;" * 120
        self.check(many, many, [1])
        self.check(many, "do 1;" * 119, [0])
        self.check(many, "do 1;" * 119 + "do 2;", [0])


class Refusals(Cases):
    long_texts = (" " * 601, "show 1;" + " " * 594, "$" * 601, "\t" * 2000, "(" * 602)

    def test_more_than_600_bytes(self):
        bad = [text for number, texts in FAULTY for text in texts]
        for text in self.long_texts:
            for other in ("", "show 1;", " " * 600) + tuple(bad) + self.long_texts:
                self.check(text, other, [-1])

    def test_600_bytes_are_read(self):
        self.check("show 1;" + " " * 593, " " * 593 + "show 1;", [1])
        self.check("show 1;" + " " * 593, "show 2;" + " " * 593, [0])

    def test_each_fault(self):
        for number, texts in FAULTY:
            for text in texts:
                self.assertEqual(fault_of(text)[0], number)
                self.check(text, "show 1;", [-2])
                self.check(text, "", [-2])
                self.check(text, text, [-2])

    def test_both_with_faults(self):
        firsts = [texts[0] for number, texts in FAULTY]
        for text in firsts:
            for other in firsts:
                self.check(text, other, [-2])


class HandedIn(HandedInCases, unittest.TestCase):
    handed = (
        ("", ""), ("show 1;", "show(1);"), ("show 1;", "show 2;"), ("$", "show 1;"), ("show 1;", "\t"), ("", "(" * 25),
        (" " * 601, "show 1;"), ("show 1;", " " * 601), ("show (", "do 1" + "+1" * 50 + ";"),
        ("for x in fn f(a, b) { set a = r.x; } {}", "do (name: [name, name.name(name)]);"),
        ("slider y = -0 in 2, 3;", "slider y = 0 in 2, 3;"), ('choice x = 0 in "a\\n";', 'choice x = 0 in "a\\n";'),
    )

    def call(self, text_a, text_b):
        return cells.same(text_a, text_b)


if __name__ == "__main__":
    unittest.main()
