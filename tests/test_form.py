import unittest

from celltexts import cells
from tests.helper import Untouchable, fault_of, form_of, to_bytes


class Cases(unittest.TestCase):
    def check(self, cases):
        for text, form in cases:
            with self.subTest(text=text):
                self.assertEqual(form_of(text), form)

    def check_shown(self, cases):
        self.check([(f"show {text};", f"show {form};") for text, form in cases])

    def check_kept(self, texts):
        self.check_shown([(text, text) for text in texts])


class Programs(Cases):
    def test_the_documents_example(self):
        self.check((("if(a or (b or c)){show((1+2)+3);}# x", "if a or (b or c) { show 1 + 2 + 3; }"),))

    def test_the_answer_as_numbers(self):
        self.assertEqual(cells.form(to_bytes("do\na ;")), [5, 100, 111, 32, 97, 59])
        self.assertEqual(cells.form([]), [0])

    def test_no_statements(self):
        self.check((("", ""), (" \n", ""), ("# show 1;", "")))

    def test_statements_stand_on_lines_of_their_own(self):
        self.check((("show 1;show 2;\n\n# x\n show 3; ", "show 1;\nshow 2;\nshow 3;"),))

    def test_blanks_and_comments_do_not_count(self):
        self.check((("let x # y\n=\n\n(1 # z)\n) ; # end", "let x = 1;"),))


class Statements(Cases):
    def test_with_one_expression(self):
        for word in ("show", "table", "plot", "check", "do", "give"):
            self.check(((f"{word}(1+2) ;", f"{word} 1 + 2;"),))
        for word in ("let", "set"):
            self.check(((f"{word} x=(a?b:c);", f"{word} x = a ? b : c;"),))

    def test_with_blocks(self):
        self.check((
            ("if(a){}", "if a {}"),
            ("if a{}else{}", "if a {} else {}"),
            ("if a{show 1;}", "if a { show 1; }"),
            ("if a{show 1;show 2;}else{show 3;\nshow 4;}", "if a { show 1; show 2; } else { show 3; show 4; }"),
            ("if a{}else{show 1;}", "if a {} else { show 1; }"),
            ("if a{show 1;}else{}", "if a { show 1; } else {}"),
            ("while((a<b)){do c;}", "while a < b { do c; }"),
            ("while a{ }", "while a {}"),
            ("for x in[1,2]{show x;}", "for x in [1, 2] { show x; }"),
            ("for x in(y){#\n}", "for x in y {}"),
            ("while a{if b{for c in d{}}else{}}", "while a { if b { for c in d {} } else {} }"),
            ("if a ? b : c {}", "if a ? b : c {}"),
        ))

    def test_sliders(self):
        self.check((
            ("slider x=3 in-5,10;", "slider x = 3 in -5, 10;"),
            ("slider x = - 3 in - 5 , - 10 ;", "slider x = -3 in -5, -10;"),
            ("slider x = -0 in -0, -0;", "slider x = 0 in 0, 0;"),
            ("slider x = 0 in 0, 0;", "slider x = 0 in 0, 0;"),
            (f"slider x = -{'9' * 30} in -10, {'8' * 30};", f"slider x = -{'9' * 30} in -10, {'8' * 30};"),
        ))

    def test_choices(self):
        self.check((
            ('choice x=0 in"a";', 'choice x = 0 in "a";'),
            ('choice x=12 in"a","","\\"\\n\\\\";', 'choice x = 12 in "a", "", "\\"\\n\\\\";'),
        ))


class Simple(Cases):
    def test_leaves(self):
        self.check_kept(("0", "7", "9" * 30, "yes", "no", "none", "a", "_", "aB_9", "x" * 16))

    def test_minus_of_nought_is_kept_outside_of_sliders(self):
        self.check_kept(("-0",))

    def test_quoted_texts(self):
        self.check_kept(('""', '"a"', '" # ! $ n \' "', '"\\\\"', '"\\""', '"\\n"', '"\\\\n\\"\\\\\\n"', '"[(]{"'))
        self.check_kept(('"' + "".join([chr(byte) for byte in range(32, 127) if byte not in (34, 92)]) + '"',))

    def test_lists_and_records(self):
        self.check_shown((
            ("[ ]", "[]"),
            ("[(a)]", "[a]"),
            ("[a,(b?c:d),e or f]", "[a, b ? c : d, e or f]"),
            ("( : )", "(:)"),
            ("(x:1)", "(x: 1)"),
            ("(y:(a?b:c),x:(2),y:((:)))", "(y: a ? b : c, x: 2, y: (:))"),
        ))

    def test_functions(self):
        self.check_shown((
            ("fn(){}", "fn () {}"),
            ("fn(a){}", "fn (a) {}"),
            ("fn(a,b){give(a);}", "fn (a, b) { give a; }"),
            ("fn f(){}", "fn f() {}"),
            ("fn f (a , b){give a;show b;}", "fn f(a, b) { give a; show b; }"),
            ("(fn(){})()", "fn () {}()"),
            ("(fn f(a){}).x + fn(){}", "fn f(a) {}.x + fn () {}"),
        ))

    def test_built_in_words(self):
        for word in ("len", "keys", "text", "num", "roll"):
            self.check_shown(((f"{word}( (a?b:c) )", f"{word}(a ? b : c)"),))
        for word in ("cut", "with"):
            self.check_shown(((f"{word}((a) ,(b or c),1)", f"{word}(a, b or c, 1)"),))

    def test_brackets_round_simple_ones_change_nothing(self):
        for text in ("1", '"a"', "yes", "a", "[1]", "(:)", "(x: 1)", "fn () {}", "len(a)"):
            self.check_shown((
                (f"(({text}))", text),
                (f"({text}).x", f"{text}.x"),
                (f"({text})[({text})]", f"{text}[{text}]"),
                (f"({text})(({text}))", f"{text}({text})"),
                (f"-({text})", f"-{text}"),
                (f"({text})*({text})", f"{text} * {text}"),
            ))


class Brackets(Cases):
    """For each strength: brackets that are wanted, and brackets that change nothing."""

    def test_choosing(self):
        self.check_kept(("(a ? b : c) ? d : e", "a ? (b ? c : d) : e", "a ? b : (c ? d : e)", "(a ? b : c) or d"))
        self.check_shown((
            ("(a)?(b):(c)", "a ? b : c"),
            ("(a or b)?(c or d):(e or f)", "a or b ? c or d : e or f"),
            ("(a?b:c)", "a ? b : c"),
            ("f((a?b:c))[(a?b:c)]", "f(a ? b : c)[a ? b : c]"),
        ))

    def test_or(self):
        self.check_kept(("a or (b or c)", "(a or b) and c", "a and (b or c)", "not (a or b)", "(a or b) == c"))
        self.check_shown((("(a or b) or c", "a or b or c"), ("(a and b) or (c and d)", "a and b or c and d")))

    def test_and(self):
        self.check_kept(("a and (b and c)", "not (a and b)", "(a and b) < c", "-(a and b)"))
        self.check_shown((("(a and b) and c", "a and b and c"), ("(not a) and (not b)", "not a and not b")))

    def test_not(self):
        self.check_kept(("not (not a)", "(not a) == b", "a == (not b)", "(not a) + b", "-(not a)", "(not a).x"))
        self.check_shown((("not (a == b)", "not a == b"), ("not(a)", "not a"), ("(not a) or (not b)", "not a or not b")))

    def test_comparisons(self):
        for sign in ("==", "!=", "<", "<=", ">", ">="):
            self.check_kept((f"(a {sign} b) {sign} c", f"a {sign} (b {sign} c)", f"(a {sign} b) ++ c", f"-(a {sign} b)"))
            self.check_shown((
                (f"(a++b){sign}(c++d)", f"a ++ b {sign} c ++ d"),
                (f"(a{sign}b) and (c{sign}d)", f"a {sign} b and c {sign} d"),
                (f"not (a{sign}b)", f"not a {sign} b"),
            ))

    def test_joining(self):
        self.check_kept(("a ++ (b ++ c)", "(a ++ b) + c", "a + (b ++ c)", "(a ++ b) * c", "-(a ++ b)"))
        self.check_shown((("(a++b)++c", "a ++ b ++ c"), ("(a+b)++(c-d)", "a + b ++ c - d")))

    def test_sums(self):
        for sign in "+-":
            self.check_kept((f"a {sign} (b + c)", f"a {sign} (b - c)", f"(a {sign} b) * c", f"-(a {sign} b)"))
            self.check_kept((f"(a ++ b) {sign} c", f"a {sign} (b ++ c)", f"(a < b) {sign} c", f"a {sign} (not b)"))
            self.check_shown((
                (f"(a+b){sign}c", f"a + b {sign} c"),
                (f"(a-b){sign}c", f"a - b {sign} c"),
                (f"(a*b){sign}(c%d)", f"a * b {sign} c % d"),
                (f"a{sign}(-b)", f"a {sign} -b"),
            ))

    def test_products(self):
        for sign in "*/%":
            self.check_kept([f"a {sign} (b {other} c)" for other in "*/%"])
            self.check_kept((f"-(a {sign} b)", f"(a {sign} b).x", f"(a {sign} b)(c)"))
            self.check_kept((f"(a + b) {sign} c", f"a {sign} (b + c)", f"(a - b) {sign} c", f"a {sign} (b ++ c)"))
            self.check_shown([(f"(a {sign} b) {other} c", f"a {sign} b {other} c") for other in "*/%"])
            self.check_shown(((f"(-a){sign}(-b)", f"-a {sign} -b"),))

    def test_minus(self):
        self.check_kept(("-(-a)", "(-a).x", "(-a)(b)", "(-a)[b]"))
        self.check_shown((("-(a.x)", "-a.x"), ("-(a)", "-a"), ("- a", "-a"), ("-(f(x)[1].y)", "-f(x)[1].y")))

    def test_reached(self):
        self.check_kept(("(a + b)(c)", "(a or b)[c]", "(a ? b : c).x", "(not a)(b)"))
        self.check_shown((
            ("((f(x))[1]).y", "f(x)[1].y"),
            ("f ( )", "f()"),
            ("f((a),(b or c))", "f(a, b or c)"),
            ("(a)[(b+c)]", "a[b + c]"),
            ("(a).b", "a.b"),
            ("(1).x", "1.x"),
        ))

    def test_different_trees_have_different_forms(self):
        self.check_kept(("1 - 2", "1 + -2", "(x: 1, y: 2)", "(y: 2, x: 1)", "a - (b + c)", "a - b + c"))


class Lengths(Cases):
    def test_a_form_of_more_than_600_bytes_is_told_whole(self):
        self.check((
            ("do 1+1;" * 85, "\n".join(["do 1 + 1;"] * 85)),
            ("do[" + ",".join(["1"] * 298) + "];", "do [" + ", ".join(["1"] * 298) + "];"),
            ("if a{" + "if a{}" * 99 + "}", "if a { " + " ".join(["if a {}"] * 99) + " }"),
        ))

    def test_refusals(self):
        self.check(((" " * 600, ""), ("show 1;" + " " * 593, "show 1;")))
        self.check([(sign * size, [-1]) for sign in " \t(" for size in (601, 2000)])
        self.check([(text, [-2]) for text in ("\t", "$", "(" * 25, "show 1", "do 1" + "+1" * 50 + ";", "(" * 600)])

    def test_it_is_refused_where_there_is_a_fault(self):
        for size in range(1, 45):
            text = "do 1" + "+1" * size + ";"
            self.assertEqual(form_of(text) == [-2], fault_of(text) != [0])

    def test_the_form_of_a_form_is_that_form(self):
        for text in (
            "", "if(a or (b or c)){show((1+2)+3);}# x", 'choice x=0 in"a\\n","\\"";slider y=-0 in-1,1;',
            "do fn(a,b){give(a?b:(c?d:e))[1](2).x;}((x:1),(:));", "let x=-(-(1))*nota%(not(not b)==c);",
        ):
            form = form_of(text)
            self.assertEqual(fault_of(text), [0])
            self.assertEqual(form_of(form), form)


class HandedIn(unittest.TestCase):
    texts = (
        "", "show 1;", "$", "show (", 'choice x = 0 in "a\\n";', "let name = other;", " " * 601,
        "for x in fn f(a, b) { set a = r.x; } { slider y = 1 in 2, 3; }", "do (name: [name, name.name(name)]);",
    )

    def test_it_is_as_it_was_and_never_changed(self):
        for text in self.texts:
            handed = Untouchable(to_bytes(text))
            cells.form(handed)
            self.assertEqual(list(handed), to_bytes(text))

    def test_called_twice_the_answer_is_the_same(self):
        for text in self.texts:
            first = cells.form(to_bytes(text))
            kept = list(first)
            first.append(7)
            first[0] = 8
            self.assertEqual(cells.form(to_bytes(text)), kept)

    def test_whole_numbers_in_a_list(self):
        for text in self.texts:
            answer = cells.form(to_bytes(text))
            self.assertIs(type(answer), list)
            self.assertEqual({type(number) for number in answer}, {int})


if __name__ == "__main__":
    unittest.main()
