import unittest

from celltexts import cells
from tests.helper import FAULTY, HandedInCases, fault_of, form_of, to_bytes, weigh_of

# Statements of each kind, with depth, statements, expressions, brackets in the text, brackets in the form.
STATEMENTS = (
    ("let x = 1;", [2, 1, 1, 0, 0]),
    ("let x = (a + (b));", [3, 1, 3, 2, 0]),
    ("set x = [];", [2, 1, 1, 1, 1]),
    ("show a;", [2, 1, 1, 0, 0]),
    ("table (a).b;", [3, 1, 2, 1, 0]),
    ("plot a.b.c;", [4, 1, 3, 0, 0]),
    ("check -a;", [3, 1, 2, 0, 0]),
    ("do a();", [3, 1, 2, 1, 1]),
    ("give (((a)));", [2, 1, 1, 3, 0]),
    ("if a {}", [2, 1, 1, 1, 1]),
    ("if (a) { show 1; }", [3, 2, 2, 2, 1]),
    ("if a {} else {}", [2, 1, 1, 2, 2]),
    ("if a { show 1; } else { show 2; show 3 + 4; }", [4, 4, 6, 2, 2]),
    ("if a {} else { show 1; }", [3, 2, 2, 2, 2]),
    ("if a { show 1; } else {}", [3, 2, 2, 2, 2]),
    ("while a {}", [2, 1, 1, 1, 1]),
    ("while a.b { do 1; do 2; }", [3, 3, 4, 1, 1]),
    ("for x in y {}", [2, 1, 1, 1, 1]),
    ("for x in [y] { show x; }", [3, 2, 3, 2, 2]),
    ("slider x = 3 in -5, 10;", [1, 1, 0, 0, 0]),
    ("slider x = -0 in -0, -0;", [1, 1, 0, 0, 0]),
    ('choice x = 0 in "a";', [1, 1, 0, 0, 0]),
    ('choice x = 0 in "(", "[", "{";', [1, 1, 0, 0, 0]),
)

# Expressions of each kind, with depth, statements, expressions, brackets in the text, brackets in the form.
EXPRESSIONS = (
    ("1", [1, 0, 1, 0, 0]),
    ('"a"', [1, 0, 1, 0, 0]),
    ("yes", [1, 0, 1, 0, 0]),
    ("no", [1, 0, 1, 0, 0]),
    ("none", [1, 0, 1, 0, 0]),
    ("a", [1, 0, 1, 0, 0]),
    ("[]", [1, 0, 1, 1, 1]),
    ("[a, (b), [c]]", [3, 0, 5, 3, 2]),
    ("(:)", [1, 0, 1, 1, 1]),
    ("(x: 1)", [2, 0, 2, 1, 1]),
    ("(x: a, y: b.c, x: (:))", [3, 0, 5, 2, 2]),
    ("-a", [2, 0, 2, 0, 0]),
    ("-(a)", [2, 0, 2, 1, 0]),
    ("-(-a)", [3, 0, 3, 1, 1]),
    ("not a", [2, 0, 2, 0, 0]),
    ("not (a == b)", [3, 0, 4, 1, 0]),
    ("not (not a)", [3, 0, 3, 1, 1]),
    ("a ? b : c", [2, 0, 4, 0, 0]),
    ("a ? (b ? c : d) : (e)", [3, 0, 7, 2, 1]),
    ("f()", [2, 0, 2, 1, 1]),
    ("f(a)", [2, 0, 3, 1, 1]),
    ("f(a, b.c, (d))", [3, 0, 6, 2, 1]),
    ("f()()", [3, 0, 3, 2, 2]),
    ("l[i]", [2, 0, 3, 1, 1]),
    ("l[i + 1]", [3, 0, 5, 1, 1]),
    ("r.x", [2, 0, 2, 0, 0]),
    ("f(x)[1].y", [4, 0, 6, 2, 2]),
    ("len(a)", [2, 0, 2, 1, 1]),
    ("keys((a))", [2, 0, 2, 2, 1]),
    ("text(1)", [2, 0, 2, 1, 1]),
    ("num(-a)", [3, 0, 3, 1, 1]),
    ("roll(a + b)", [3, 0, 4, 1, 1]),
    ("cut(a, b, c)", [2, 0, 4, 1, 1]),
    ("with(a, (b), c.d)", [3, 0, 5, 2, 1]),
    ("fn () {}", [1, 0, 1, 2, 2]),
    ("fn (a, b) {}", [1, 0, 1, 2, 2]),
    ("fn (a) { give a; }", [3, 1, 2, 2, 2]),
    ("fn f() {}", [1, 0, 1, 2, 2]),
    ("fn f(a, b) { give a; slider x = 1 in 1, 1; }", [3, 2, 2, 2, 2]),
    ("fn () { give fn () { give 1; }; }", [5, 2, 3, 4, 4]),
)

BETWEEN = ("or", "and", "==", "!=", "<", "<=", ">", ">=", "++", "+", "-", "*", "/", "%")


class Cases(unittest.TestCase):
    def check(self, cases):
        for text, answer in cases:
            with self.subTest(text=text):
                self.assertEqual(weigh_of(text), answer)


class Answers(Cases):
    def test_no_statements(self):
        texts = ("", " ", "\n \n", "#", "# show (1);", "# ([{\n", " " * 600, "#" * 600)
        self.check([(text, [0, 0, 0, 0, 0]) for text in texts])

    def test_the_documents_examples(self):
        self.check((
            ("show -a.b;", [4, 1, 3, 0, 0]),
            ("if(a or (b or c)){show((1+2)+3);}# x", [5, 2, 10, 5, 2]),
        ))

    def test_each_kind_of_statement(self):
        self.check(STATEMENTS)

    def test_each_kind_of_expression(self):
        for text, (depth, statements, expressions, in_text, in_form) in EXPRESSIONS:
            for before, behind, blocks in (("show ", ";", 0), ("let x = ", ";", 0), ("if ", "{}", 1), ("for x in ", "{}", 1)):
                answer = [depth + 1, statements + 1, expressions, in_text + blocks, in_form + blocks]
                self.check(((before + text + behind, answer),))
            self.check(((f"show ( {text} );", [depth + 1, statements + 1, expressions, in_text + 1, in_form]),))

    def test_what_stands_between_two(self):
        for sign in BETWEEN:
            self.check((
                (f"show a {sign} b;", [3, 1, 3, 0, 0]),
                (f"show (a) {sign} ([b]);", [4, 1, 4, 3, 1]),
                (f"show a {sign} (b {sign} c);", [4, 1, 5, 1, 1]),
            ))

    def test_expressions_joined_from_the_left(self):
        self.check((
            ("show a - b + c;", [4, 1, 5, 0, 0]),
            ("show (a - b) + c;", [4, 1, 5, 1, 0]),
            ("show a - (b + c);", [4, 1, 5, 1, 1]),
            ("show a + b * c - d;", [5, 1, 7, 0, 0]),
            ("show a or b and not c == -d;", [7, 1, 9, 0, 0]),
        ))

    def test_statements_at_every_depth(self):
        self.check((
            ("while a { while b { show 1; } show 2; } show 3;", [4, 5, 5, 2, 2]),
            ("if a { if b { show 1; } else { show 2; } } else { show 3; }", [4, 5, 5, 4, 4]),
            ("for x in y { slider z = 1 in 1, 1; } slider w = 1 in 1, 1;", [2, 3, 1, 1, 1]),
            ("show fn () { if a { give 1; } give 2; }; show 3;", [5, 5, 5, 3, 3]),
            ("if fn () { give 1; }() { show 2; }", [5, 3, 4, 4, 4]),
            ("show [fn () { do 1; do 2; }, fn f() { do 3; }];", [5, 4, 6, 5, 5]),
            ("show (x: fn () { do 1; });", [5, 2, 3, 3, 3]),
            ("show len(fn () { do f(fn () { do 1; }); });", [8, 3, 6, 6, 6]),
            ("do 1;" * 120, [2, 120, 120, 0, 0]),
        ))

    def test_the_depth_is_the_greatest(self):
        self.check((
            ("do a; do a.b.c; do a;", [4, 3, 5, 0, 0]),
            ("do a.b.c; do a;", [4, 2, 4, 0, 0]),
            ("do a; do a.b.c;", [4, 2, 4, 0, 0]),
            ("slider x = 1 in 1, 1; do a;", [2, 2, 1, 0, 0]),
        ))


class Brackets(Cases):
    def test_each_kind(self):
        self.check((
            ("show (1);", [2, 1, 1, 1, 0]),
            ("show [1];", [3, 1, 2, 1, 1]),
            ("if 1 {}", [2, 1, 1, 1, 1]),
            ("if ([(1)]) {}", [3, 1, 2, 4, 2]),
            ("show a(b)[c];", [4, 1, 5, 2, 2]),
        ))

    def test_that_the_form_leaves_out(self):
        self.check([(f"do {'(' * size}a{')' * size};", [2, 1, 1, size, 0]) for size in range(25)])
        self.check((
            ("do (a) + (b * (c));", [4, 1, 5, 3, 0]),
            ("do ((a).b)((c));", [4, 1, 4, 4, 1]),
            ("do ((x: (a)));", [3, 1, 2, 3, 1]),
            ("do ([(a), (b)]);", [3, 1, 3, 4, 1]),
            ("do (fn () {})();", [3, 1, 2, 4, 3]),
            ("do (a or b) or (c and d);", [4, 1, 7, 2, 0]),
        ))

    def test_that_are_needed(self):
        self.check((
            ("do (a + b) * c;", [4, 1, 5, 1, 1]),
            ("do (-a).b;", [4, 1, 3, 1, 1]),
            ("do (a ? b : c).d;", [4, 1, 5, 1, 1]),
            ("do ((a or b) and c)[d];", [5, 1, 7, 3, 3]),
            ("do (((a + b))) * c;", [4, 1, 5, 3, 1]),
        ))

    def test_in_quoted_texts_and_comments(self):
        self.check((
            ('do "([{";', [2, 1, 1, 0, 0]),
            ('do ["(", "[{"];', [3, 1, 3, 1, 1]),
            ('do ("\\"(");', [2, 1, 1, 1, 0]),
            ('do "\\\\" + ("(");', [3, 1, 3, 1, 0]),
            ('do "#(" + ("#[");', [3, 1, 3, 1, 0]),
            ('do (a: "{(");', [3, 1, 2, 1, 1]),
            ("do 1; # ([{", [2, 1, 1, 0, 0]),
            ("# (\ndo # [\n(1) # {\n;", [2, 1, 1, 1, 0]),
            ('choice x = 0 in "(((", "}]"; do f();', [3, 2, 2, 1, 1]),
        ))

    def test_closing_ones_do_not_count(self):
        self.check((('do ")]}"; # )]}', [2, 1, 1, 0, 0]), ("do [[], []];", [3, 1, 3, 3, 3])))


class Edges(Cases):
    def test_depth_40(self):
        self.check((
            ("do 1" + "+1" * 38 + ";", [40, 1, 77, 0, 0]),
            ("do a" + ".b" * 38 + ";", [40, 1, 39, 0, 0]),
            ("do fn(){" * 20 + "};" * 20, [40, 20, 20, 40, 40]),
            ("do fn(){" * 20 + "slider x = 1 in 1, 1;" + "};" * 20, [-2]),
            ("do a" + "()" * 38 + ";", [40, 1, 39, 38, 38]),
            ("if a {" * 22 + "do a" + ".b" * 16 + ";" + "}" * 22, [40, 23, 39, 22, 22]),
            ("do 1" + "+1" * 39 + ";", [-2]),
            ("do a" + ".b" * 39 + ";", [-2]),
        ))

    def test_brackets_24_deep(self):
        self.check((
            ("do " + "[" * 24 + "]" * 24 + ";", [25, 1, 24, 24, 24]),
            ("if a {" * 24 + "}" * 24, [25, 24, 24, 24, 24]),
            ("do fn(){" * 12 + "};" * 12, [24, 12, 12, 24, 24]),
            ("do " + "(" * 24 + "1" + ")" * 24 + ";", [2, 1, 1, 24, 0]),
            ("do " + "[" * 25 + "]" * 25 + ";", [-2]),
        ))

    def test_a_form_of_more_than_600_bytes(self):
        cases = (
            ("do 1+1;" * 85, [3, 85, 255, 0, 0]),
            ("do[" + ",".join(["1"] * 298) + "];", [3, 1, 299, 1, 1]),
            ("do[" + ",".join(["[]"] * 198) + "];", [3, 1, 199, 199, 199]),
            ("if a{" + "if a{}" * 99 + "}", [3, 100, 100, 100, 100]),
            ("do(f(a+(b),(c)));" + "do(1)+2;" * 72, [4, 73, 222, 76, 1]),
        )
        self.check(cases)
        for text, answer in cases:
            self.assertGreater(len(form_of(text)), 600)

    def test_a_form_whose_last_brackets_stand_behind_600_bytes(self):
        text = "do 1+1;" * 83 + "do[(1)];"
        self.assertGreater(form_of(text).index("["), 600)
        self.check(((text, [3, 84, 251, 2, 1]),))

    def test_as_many_brackets_as_can_be(self):
        self.check((("do[" + "[]," * 197 + "[]];", [3, 1, 199, 199, 199]), ("if a{}" * 100, [2, 100, 100, 100, 100])))


class Refusals(Cases):
    def test_each_fault(self):
        for number, texts in FAULTY:
            for text in texts:
                self.assertEqual(fault_of(text)[0], number)
                self.check(((text, [-2]),))

    def test_good_statements_before_a_fault(self):
        self.check([("show 1; show 2; " + text, [-2]) for text in ("\t", "$", "(" * 25, "show", "do a" + ".b" * 39 + ";")])

    def test_more_than_600_bytes(self):
        self.check((("show 1;" + " " * 593, [2, 1, 1, 0, 0]), ("show 1;" + " " * 594, [-1])))
        self.check([(sign * size, [-1]) for sign in " \t$(a#" for size in (601, 602, 2000)])


class HandedIn(HandedInCases, unittest.TestCase):
    handed = [(text,) for text in (
        "", "show 1;", "$", "\t", "(" * 25, "show (", "do 1" + "+1" * 50 + ";", 'choice x = 0 in "a\\n(";', " " * 601,
        "for x in fn f(a, b) { set a = r.x; } { slider y = 1 in 2, 3; } do (1); # x", "if a {} else {} if b {}",
        "do 1+1;" * 85,
    )]

    def call(self, text):
        return cells.weigh(text)


if __name__ == "__main__":
    unittest.main()
