import unittest

from celltexts import cells
from tests.helper import Untouchable, fault_of, to_bytes

EXPRESSIONS = (
    "1", '"a"', '""', "yes", "no", "none", "a", "_", "_a1", "Let", "LEN", "lets", "[]", "[1]", "[1, 2, a]", "(:)",
    "(x: 1)", "(x: 1, y: 2)", "(1)", "((1))", "fn () {}", "fn (a) {}", "fn (a, b) { give a; }", "fn f() {}",
    "fn f(a) { give a; show 1; }", "fn f(a, a) {}", "len(1)", "keys(a)", "text(1)", "num(a)", "roll(6)",
    "cut(a, 1, 2)", "with(a, b, c)", "f()", "f(1)", "f(1, 2)", "l[1]", "r.x", "f(x)[1].y", "1.x", "1(2)", '"a"[0]',
    "[1][0]", "(x: 1).x", "fn () {}()", "len(a)(b)", "yes.x", "-1", "-a.b", "-(-1)", "a * b", "a / b", "a % b",
    "a * -b / -c % d", "a + b", "a - b", "a - -b + c", "a ++ b", "a ++ b ++ c", "a == b", "a != b", "a < b", "a <= b",
    "a > b", "a >= b", "(a < b) < c", "not a", "not a == b", "not (not a)", "a and b", "a and not b and c", "a or b",
    "not a or not b", "a ? b : c", "(a ? b : c) ? d : e", "a ? (b ? c : d) : (e ? f : g)", "(a ? b : c)",
    "a or b and not c == d ++ e + f * -g(h)[i].j",
)

STATEMENTS = (
    "let x = 1;", "set x = 1;", "show 1;", "table 1;", "plot 1;", "check 1;", "do 1;", "give 1;", "if a {}",
    "if a { show 1; }", "if a {} else {}", "if a { show 1; show 2; } else { show 3; }", "while a {}",
    "while a { do b; }", "for x in y {}", "for x in y { show x; if x {} }", "slider x = 3 in -5, 10;",
    "slider x = -3 in 5, -10;", "slider x = 0 in -0, - 0;", 'choice x = 0 in "a";', 'choice x = 7 in "a", "b", "";',
    "if a (b) {}", "if fn () {} {}", "while (a) {}",
)


class Cases(unittest.TestCase):
    def check(self, cases):
        for text, answer in cases:
            with self.subTest(text=text):
                self.assertEqual(fault_of(text), answer)

    def check_good(self, texts):
        self.check([(text, [0]) for text in texts])


class Good(Cases):
    def test_nothing_blanks_and_comments(self):
        self.check_good(("", " ", "\n", " \n ", "#", "# x", "# x\n", "#\n#\n", "  # \"$!\n ", "#x#y\n#"))

    def test_every_statement(self):
        self.check_good(STATEMENTS)
        self.check_good((" ".join(STATEMENTS[:12]), "\n".join(STATEMENTS[12:])))

    def test_every_expression(self):
        self.check_good([f"show {expression};" for expression in EXPRESSIONS])
        self.check_good([f"let x = [{expression}, ({expression})];" for expression in EXPRESSIONS])
        self.check_good([f"if {expression} {{}}" for expression in EXPRESSIONS])

    def test_blanks_and_comments_stand_anywhere_between_tokens(self):
        self.check_good(("show\n1\n;", "show 1;# x", "# x\nshow 1 # ; \n;", "show f # x\n(1) [2] . x;", "show(1);"))

    def test_tokens_need_no_blanks_between(self):
        self.check_good(("show 1or 2and 3;", "show[1]++[2];", "show-1;", 'show"a";', "if a{}else{}"))


class DocumentsExamples(Cases):
    def test_examples(self):
        self.check((
            ("show 1 + ;", [4, 9]),
            ("show (1", [4, 7]),
            ("show 1 < 2 < 3;", [4, 11]),
            ("show - -1;", [4, 7]),
            ('show "a', [2, 5]),
            ("let len = 1;", [4, 4]),
        ))


class Lengths(Cases):
    def test_600_bytes_are_read(self):
        self.check((
            (" " * 600, [0]),
            ("show 1;" + " " * 593, [0]),
            ("#" * 600, [0]),
            (" " * 599 + "$", [2, 599]),
            ("show 1" + " " * 594, [4, 600]),
        ))

    def test_more_are_refused_whatever_they_hold(self):
        self.check([(sign * size, [-1]) for sign in " \t$(" for size in (601, 602, 2000)])


class Bytes(Cases):
    def test_which_bytes_are_allowed(self):
        for byte in range(256):
            allowed = byte == 10 or 32 <= byte <= 126
            with self.subTest(byte=byte):
                self.assertEqual(cells.fault([32, 35, byte]), [0] if allowed else [1, 2])

    def test_the_least_place_is_told(self):
        self.check((("\t", [1, 0]), ("a\x7f\x00", [1, 1]), ("show 1;\r\n\r\n", [1, 7]), ("\xff", [1, 0])))

    def test_also_in_comments_and_quoted_texts(self):
        self.check((("# a\tb", [1, 3]), ('show "a\tb";', [1, 7])))


class WrongTokens(Cases):
    def test_words(self):
        self.check((
            ("show " + "a" * 16 + ";", [0]),
            ("show " + "a" * 17 + ";", [2, 5]),
            ("show _" + "9" * 15 + ";", [0]),
            ("show _" + "9" * 16 + ";", [2, 5]),
            ("show aZ_09zA_" + "B" * 9 + ";", [2, 5]),
            ("a" * 17, [2, 0]),
        ))

    def test_numbers(self):
        self.check((
            ("show " + "9" * 30 + ";", [0]),
            ("show " + "9" * 31 + ";", [2, 5]),
            ("show 0;", [0]),
            ("show 10;", [0]),
            ("show 00;", [2, 5]),
            ("show 007;", [2, 5]),
            ("show 01;", [2, 5]),
            ("show 0x;", [4, 6]),
            ("show 12ab;", [4, 7]),
            ("show 1_0;", [4, 6]),
        ))

    def test_quoted_texts_that_do_not_end(self):
        self.check((
            ('show "', [2, 5]),
            ('show "a\n";', [2, 5]),
            ('show "\n', [2, 5]),
            ('show "a;', [2, 5]),
            ('show "a" "b', [2, 9]),
            ('show "a\\"', [2, 5]),
        ))

    def test_backslashes(self):
        self.check((
            ('show "\\\\";', [0]),
            ('show "\\"";', [0]),
            ('show "\\n";', [0]),
            ('show "\\\\\\"\\n";', [0]),
            ('show "\\N";', [2, 5]),
            ('show "ab\\t";', [2, 5]),
            ('show "\\ ";', [2, 5]),
            ('show "\\\n";', [2, 5]),
            ('show "\\', [2, 5]),
            ('show "\\\\', [2, 5]),
            ("show \\;", [2, 5]),
        ))

    def test_comment_sign_in_and_out_of_quoted_texts(self):
        self.check((
            ('show "#";', [0]),
            ('show "a # b"; # "', [0]),
            ('show "a\\"#"; # c', [0]),
            ("show 1 # ;", [4, 10]),
            ("show 1 # ;\n;", [0]),
            ('# "\nshow 1;', [0]),
            ('show "a#\n";', [2, 5]),
        ))

    def test_bytes_with_which_no_token_begins(self):
        self.check([(f"show {sign}1;", [2, 5]) for sign in "!$&'@\\^`|~"])
        self.check((("show a !b;", [2, 7]), ("show a ! = b;", [2, 7]), ("show a != b;", [0]), ("!", [2, 0])))

    def test_the_first_wrong_one_is_told(self):
        self.check(((" $ 00", [2, 1]), ("00 $", [2, 0]), ("1 00$", [2, 2])))


class TokensAsLongAsCanBe(Cases):
    def test_signs(self):
        self.check((
            ("show a===b;", [4, 8]),
            ("show a<==b;", [4, 8]),
            ("show a+++b;", [4, 8]),
            ("show a<>b;", [4, 7]),
            ("show a=<b;", [4, 6]),
            ("show a< =b;", [4, 8]),
            ("show a+ +b;", [4, 8]),
            ("show a--b;", [0]),
            ("let x==1;", [4, 5]),
            ("let x= =1;", [4, 7]),
        ))

    def test_words(self):
        self.check((("showa;", [4, 0]), ("show notes;", [0]), ("show no t;", [4, 8]), ("ifa {}", [4, 0])))


class DeepBrackets(Cases):
    def test_24_and_25(self):
        for opening, closing in (("(", ")"), ("[", "]")):
            self.check((
                ("show " + opening * 24 + "1" + closing * 24 + ";", [0]),
                ("show " + opening * 25 + "1" + closing * 25 + ";", [3, 29]),
                ("show " + opening * 30, [3, 29]),
            ))
        self.check((
            ("if a {" * 24 + "}" * 24, [0]),
            ("if a {" * 25 + "}" * 25, [3, 149]),
            ("do fn(){" * 24 + "};" * 24, [5, 48]),
            ("do fn(){" * 24, [4, 192]),
            ("([{" * 8 + "(", [3, 24]),
        ))

    def test_brackets_that_are_closed_again_do_not_count(self):
        self.check((
            ("show []+[]+[]+[]+[]+[]+[]+[]+[]+[]+[]+[]+[]+[]+[]+[]+[]+[]+[]+[]+[]+[]+[]+[]+[]+[]+[];", [0]),
            ("show [" + "(" * 23 + "1" + ")" * 23 + ", " + "(" * 23 + "1" + ")" * 23 + "];", [0]),
            ("show [" + "(" * 23 + "1" + ")" * 23 + ", " + "(" * 24 + "1" + ")" * 24 + "];", [3, 78]),
        ))

    def test_closing_brackets_without_opening_ones(self):
        self.check((
            (")", [4, 0]),
            ("}", [4, 0]),
            ("show 1;]", [4, 7]),
            (")" + "(" * 25, [4, 0]),
            (")" + "(" * 26, [3, 26]),
            ("]})" + "[" * 27, [4, 0]),
            ("]})" + "[" * 28, [3, 30]),
        ))

    def test_brackets_within_quoted_texts_and_comments_do_not_count(self):
        self.check((('show "' + "(" * 30 + '";', [0]), ("show 1; #" + "(" * 30, [0])))

    def test_the_kind_of_a_closing_bracket_does_not_count(self):
        self.check((("show " + "(]" * 30, [4, 6]), ("(]" * 30 + "(" * 25, [3, 84])))


class NoProgram(Cases):
    def test_statements(self):
        self.check((
            ("1;", [4, 0]),
            ("else {}", [4, 0]),
            ("in", [4, 0]),
            (";", [4, 0]),
            ("show 1;;", [4, 7]),
            ("show;", [4, 4]),
            ("show 1 2;", [4, 7]),
            ("show 1, 2;", [4, 6]),
            ("let 1 = 2;", [4, 4]),
            ("let x 1;", [4, 6]),
            ("let x = ;", [4, 8]),
            ("let let = 1;", [4, 4]),
            ("set x == 1;", [4, 6]),
            ("set x.y = 1;", [4, 5]),
            ("if {}", [4, 3]),
            ("if a;", [4, 4]),
            ("if a {} else if b {}", [4, 13]),
            ("if a {} else {} else {}", [4, 16]),
            ("if a { show 1 }", [4, 14]),
            ("while a {} else {}", [4, 11]),
            ("while a show 1;", [4, 8]),
            ("for 1 in a {}", [4, 4]),
            ("for x = a {}", [4, 6]),
            ("for x in {}", [4, 9]),
            ("{}", [4, 0]),
        ))

    def test_sliders_and_choices(self):
        self.check((
            ("slider x = a in 1, 2;", [4, 11]),
            ("slider x = (1) in 1, 2;", [4, 11]),
            ("slider x = --1 in 1, 2;", [4, 12]),
            ("slider x = - in 1, 2;", [4, 13]),
            ("slider x = 1 in 1;", [4, 17]),
            ("slider x = 1 in 1, 2, 3;", [4, 20]),
            ("slider x = 1 + 1 in 1, 2;", [4, 13]),
            ("slider 1 = 1 in 1, 2;", [4, 7]),
            ("slider x = 1, 1, 2;", [4, 12]),
            ('choice x = -1 in "a";', [4, 11]),
            ('choice x = "a" in "a";', [4, 11]),
            ("choice x = 1 in;", [4, 15]),
            ("choice x = 1 in a;", [4, 16]),
            ('choice x = 1 in "a", ;', [4, 21]),
            ('choice x = 1 in "a" "b";', [4, 20]),
            ('choice x = 1 in ("a");', [4, 16]),
        ))

    def test_signs_between_and_before(self):
        self.check((
            ("show a or;", [4, 9]),
            ("show or a;", [4, 5]),
            ("show a and or b;", [4, 11]),
            ("show not not a;", [4, 9]),
            ("show a == not b;", [4, 10]),
            ("show - not a;", [4, 7]),
            ("show a + not b;", [4, 9]),
            ("show not a == b == c;", [4, 16]),
            ("show a and b == c == d;", [4, 18]),
            ("show a == b and c != d and e < f > g;", [4, 33]),
            ("show a * - - b;", [4, 11]),
            ("show a + * b;", [4, 9]),
            ("show + a;", [4, 5]),
            ("show a.-b;", [4, 7]),
            ("show a ? b;", [4, 10]),
            ("show a ? b : c ? d : e;", [4, 15]),
            ("show a ? b ? c : d : e;", [4, 11]),
            ("show a : b;", [4, 7]),
            ("show ? b : c;", [4, 5]),
            ("show a ? : c;", [4, 9]),
            ("show a = b;", [4, 7]),
        ))

    def test_a_second_comparison(self):
        signs = ("==", "!=", "<", "<=", ">", ">=")
        for first in signs:
            self.check_good((f"show a {first} b;", f"show not a {first} b and c {first} d;"))
            for second in signs:
                begun = f"show a + 1 {first} b ++ c "
                self.check(((f"{begun}{second} d;", [4, len(begun)]),))

    def test_brackets(self):
        self.check((
            ("show ();", [4, 6]),
            ("show (1;", [4, 7]),
            ("show (1];", [4, 7]),
            ("show (a, b);", [4, 7]),
            ("show (: 1);", [4, 8]),
            ("show (:;", [4, 7]),
            ("show (x: );", [4, 9]),
            ("show (x: 1, );", [4, 12]),
            ("show (x: 1, 2);", [4, 12]),
            ("show (x: 1, y);", [4, 13]),
            ("show (x: 1, y: 2;", [4, 16]),
            ("show (x : 1 : 2);", [4, 12]),
            ("show (len: 1);", [4, 9]),
            ("show (1: 2);", [4, 7]),
            ("show ((x): 1);", [4, 9]),
            ("show f(x: 1);", [4, 8]),
            ("show f(1, );", [4, 10]),
            ("show f(, 1);", [4, 7]),
            ("show f(1 2);", [4, 9]),
            ("show [1, ];", [4, 9]),
            ("show [1;", [4, 7]),
            ("show a[];", [4, 7]),
            ("show a[1, 2];", [4, 8]),
            ("show a.1;", [4, 7]),
            ("show a.len;", [4, 7]),
            ("show a.;", [4, 7]),
        ))

    def test_functions_and_built_in_words(self):
        self.check((
            ("show fn {};", [4, 8]),
            ("show fn 1() {};", [4, 8]),
            ("show fn len() {};", [4, 8]),
            ("show fn (1) {};", [4, 9]),
            ("show fn (a b) {};", [4, 11]),
            ("show fn (a, ) {};", [4, 12]),
            ("show fn (,) {};", [4, 9]),
            ("show fn () 1;", [4, 11]),
            ("show fn f g() {};", [4, 10]),
            ("show len;", [4, 8]),
            ("show len();", [4, 9]),
            ("show len(1, 2);", [4, 10]),
            ("show keys[1];", [4, 9]),
            ("show text(1, 2);", [4, 11]),
            ("show num();", [4, 9]),
            ("show roll(1, 2);", [4, 11]),
            ("show cut(1);", [4, 10]),
            ("show cut(1, 2);", [4, 13]),
            ("show cut(1, 2, 3, 4);", [4, 16]),
            ("show with();", [4, 10]),
            ("show with(1, 2, 3, 4);", [4, 17]),
            ("show let;", [4, 5]),
        ))

    def test_every_reserved_word_is_no_name(self):
        words = "let set show table plot check slider choice if else while for in do give fn and or not yes no none"
        for word in (words + " len keys text num roll cut with").split():
            self.check(((f"let {word} = 1;", [4, 4]), (f"let {word}s = 1;", [0]), (f"let {word.title()} = 1;", [0])))

    def test_a_text_that_ends_too_early_has_its_fault_at_its_length(self):
        for whole in (
            "let x = 1 ;", "if a { show 1 ; }", "while a { do f ( 1 , 2 ) ; }", "for x in [ 1 , ( y : 2 ) ] { }",
            "slider x = 3 in - 5 , 10 ;", 'choice x = 0 in "a" , "b" ;', "show a ? ( : ) : not yes and - b ++ c . d ;",
            "do fn f ( a , b ) { give cut ( a , b , 1 ) [ 0 ] . z ; } ( 1 , 2 ) ;", "show ( a or ( b ) ) % len ( c ) ;",
        ):
            tokens = whole.split()
            begun = [" ".join(tokens[:size]) for size in range(1, len(tokens))]
            self.check([(text, [4, len(text)]) for text in begun])
            self.check_good((whole,))
        self.check((("if a {} else", [4, 12]), ("if a {} else {", [4, 14])))

    def test_blanks_and_comments_at_the_end_count_for_the_length(self):
        self.check((("show 1 \n", [4, 8]), ("show 1 # ab", [4, 11]), ("show 1 # a\n", [4, 11])))


class Depth(Cases):
    def test_joined_from_the_left(self):
        for sign in (" + ", "*", " or ", " and ", "++"):
            for size in (38, 39, 40, 70):
                answer = [0] if size + 1 <= 40 else [5, size + 1]
                self.check((("show " + sign.join(["1"] * size) + ";", answer),))

    def test_reached(self):
        self.check((
            ("show a" + ".b" * 38 + ";", [0]),
            ("show a" + ".b" * 39 + ";", [5, 41]),
            ("show a" + "()" * 39 + ";", [5, 41]),
            ("show a" + "[1]" * 39 + ";", [5, 41]),
            ("show a" + ".b" * 290 + ";", [5, 292]),
        ))

    def test_as_deep_as_a_text_can_be(self):
        self.check((("do 1" + "+1" * 297 + ";", [5, 299]),))

    def test_brackets_make_no_depth(self):
        text = "a" + ".b" * 37
        self.check((
            (f"show ((((({text})))));", [0]),
            (f"show [({text})];", [0]),
            (f"show [[({text})]];", [5, 41]),
        ))

    def test_every_part_counts(self):
        inner = "a" + ".b" * 36
        for text in (
            "show -{};", "show not {};", "show {} < 1;", "show 1 < {};", "show {} ? 1 : 2;", "show 1 ? {} : 2;",
            "show 1 ? 2 : {};", "show {}(1);", "show f(1, {});", "show {}[1];", "show a[{}];", "show [1, {}];",
            "show (x: 1, y: {});", "show len({});", "show cut(1, 2, {});", "show with({}, 1, 2);", "if a {{ show {}; }}",
            "if a {{}} else {{ show 1; show {}; }}", "while a {{ show 1; show {}; }}", "for x in y {{ show {}; }}",
        ):
            self.check(((text.format(inner + ".b"), [0]), (text.format(inner + ".b.b"), [5, 41])))

    def test_conditions_count(self):
        inner = "a" + ".b" * 38
        for text in ("if {} {{}}", "while {} {{}}", "for x in {} {{}}", "let x = {};", "set x = {};"):
            self.check(((text.format(inner), [0]), (text.format(inner + ".b"), [5, 41])))

    def test_functions(self):
        self.check((
            ("do fn(){" * 19 + "do fn(){};" + "};" * 19, [0]),
            ("do fn(){" * 20 + "};" * 20, [0]),
            ("do fn(){" * 20 + "do 1;" + "};" * 20, [5, 42]),
            ("do fn f(){" * 20 + "do 1;" + "};" * 20, [5, 42]),
        ))

    def test_the_deepest_statement_is_told(self):
        deep = [f"show {'.'.join(['a'] * size)};" for size in (42, 45, 43)]
        self.check(((" ".join(deep), [5, 46]), ("show 1; " + deep[0], [5, 43])))

    def test_sliders_and_choices_have_depth_1(self):
        outer = "if a" + ".b" * 37 + " {"
        self.check([(outer + "if b {" * 23 + text + "}" * 24, [0]) for text in (
            "slider x = -1 in -2, -3;", 'choice x = 0 in "a", "b";',
        )])
        self.check((("do fn(){" * 20 + "slider x = -1 in -2, -3;" + "};" * 20, [5, 41]),))
        self.check((("do fn(){" * 20 + 'choice x = 0 in "a";' + "};" * 20, [5, 41]),))
        self.check((("do fn(){" * 19 + "if fn(){slider x = 1 in 1, 1;} {}" + "};" * 19, [5, 41]),))


class FirstFaultOfTheList(Cases):
    def test_order(self):
        deep = "(" * 25
        long = "show 1" + "+1" * 50 + ";"
        self.check((
            ("$" + deep + ")\t", [1, 27]),
            (deep + ")) 00", [2, 28]),
            ("1 2 $", [2, 4]),
            ("1 2 " + deep, [3, 28]),
            (long + " 1", [4, len(long) + 1]),
            ("1 " + long, [4, 0]),
            (long + deep, [3, len(long) + 24]),
            (long + "$", [2, len(long)]),
            (long, [5, 52]),
        ))


class HandedIn(unittest.TestCase):
    texts = ("", "show 1;", "$", "\t", "(" * 25, "show (", "show 1" + "+1" * 50 + ";", 'choice x = 0 in "a\\n";', " " * 601)

    def test_it_is_as_it_was_and_never_changed(self):
        for text in self.texts:
            handed = Untouchable(to_bytes(text))
            cells.fault(handed)
            self.assertEqual(list(handed), to_bytes(text))

    def test_called_twice_the_answer_is_the_same(self):
        for text in self.texts:
            first = fault_of(text)
            kept = list(first)
            first.append(7)
            self.assertEqual(fault_of(text), kept)

    def test_whole_numbers_in_a_list(self):
        for text in self.texts:
            answer = fault_of(text)
            self.assertIs(type(answer), list)
            self.assertEqual({type(number) for number in answer}, {int})


if __name__ == "__main__":
    unittest.main()
