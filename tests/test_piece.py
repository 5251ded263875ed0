import unittest

from celltexts import cells
from tests.helper import FAULTY, HandedInCases, fault_of, form_of, piece_of, places_of, to_bytes

FAR = 10 ** 18

# Statements of each kind, with their forms.
STATEMENTS = (
    ("let x=(1);", "let x = 1;"),
    ("set x=a+(b*c);", "set x = a + b * c;"),
    ("show(1+2)+3;", "show 1 + 2 + 3;"),
    ("table[a,(b)];", "table [a, b];"),
    ("plot(x:1,y:(:));", "plot (x: 1, y: (:));"),
    ("check not(a==b);", "check not a == b;"),
    ("do f ( );", "do f();"),
    ("give - a;", "give -a;"),
    ("if(a){}", "if a {}"),
    ("if a{show 1;show 2;}else{}", "if a { show 1; show 2; } else {}"),
    ("while a{do(b);}", "while a { do b; }"),
    ("for x in(y){show x;}", "for x in y { show x; }"),
    ("slider x=- 0 in-5,10;", "slider x = 0 in -5, 10;"),
    ('choice x=0 in"a","\\n";', 'choice x = 0 in "a", "\\n";'),
    ("show fn(a){give a;give(b);};", "show fn (a) { give a; give b; };"),
)


class Cases(unittest.TestCase):
    def check(self, cases):
        for k, text, answer in cases:
            with self.subTest(k=k, text=text):
                self.assertEqual(piece_of(k, text), answer)

    def check_all(self, text, pieces):
        self.check([(k, text, answer) for k, answer in enumerate(pieces)])
        self.check([(k, text, [-3]) for k in (-FAR, -2, -1, len(pieces), len(pieces) + 1, FAR)])
        self.assertEqual(form_of(text), "\n".join(pieces))
        self.assertEqual(len(places_of(text)), len(pieces))


class Answers(Cases):
    def test_as_numbers(self):
        self.assertEqual(cells.piece(0, to_bytes("do\na ;")), [5, 100, 111, 32, 97, 59])
        self.assertEqual(cells.piece(1, to_bytes("do a;do(1);")), [5, 100, 111, 32, 49, 59])

    def test_each_kind_alone(self):
        for text, form in STATEMENTS:
            self.check_all(text, [form])

    def test_each_kind_in_one_program(self):
        forms = [form for text, form in STATEMENTS]
        for gap in ("", " ", "\n", "# show 1;\n"):
            text = gap.join([text for text, form in STATEMENTS])
            self.check_all(text, forms)
            self.check_all(gap + text + gap, forms)
        self.check_all("".join([text for text, form in STATEMENTS[::-1]]), forms[::-1])

    def test_statements_that_are_alike(self):
        self.check_all("show 1;show 1;show(1);", ["show 1;"] * 3)
        self.check_all("do 1;" * 120, ["do 1;"] * 120)

    def test_statements_of_blocks_are_not_counted(self):
        self.check_all("if a{show 1;show 2;}else{show 3;}", ["if a { show 1; show 2; } else { show 3; }"])
        self.check_all("while a{while b{show 1;}}show 2;", ["while a { while b { show 1; } }", "show 2;"])
        self.check_all(
            "do 0;for x in y{show 1;show 2;}do fn(){give 1;give 2;};do 3;",
            ["do 0;", "for x in y { show 1; show 2; }", "do fn () { give 1; give 2; };", "do 3;"],
        )

    def test_a_piece_has_no_line_feed(self):
        self.check((
            (0, "if a\n{\nshow 1;\nshow\n2;\n}\nshow 3;", "if a { show 1; show 2; }"),
            (1, "if a\n{\nshow 1;\nshow\n2;\n}\nshow 3;", "show 3;"),
        ))

    def test_comments_and_blanks(self):
        self.check_all("# show 0;\nshow 1;# show 2;\n show # 3;\n 3; # show 4;", ["show 1;", "show 3;"])

    def test_more_than_600_bytes_are_told_whole(self):
        self.check((
            (0, "do[" + ",".join(["1"] * 298) + "];", "do [" + ", ".join(["1"] * 298) + "];"),
            (1, "do 0;do[" + ",".join(["1"] * 290) + "];do 2;", "do [" + ", ".join(["1"] * 290) + "];"),
            (2, "do 0;do[" + ",".join(["1"] * 290) + "];do 2;", "do 2;"),
            (0, "if a{" + "if a{}" * 99 + "}", "if a { " + " ".join(["if a {}"] * 99) + " }"),
        ))

    def test_pieces_at_600_bytes_and_round_it(self):
        for size in (599, 600, 601, 602):
            form = "do [" + ", ".join(["1"] * 195 + ["1" * (size - 591)]) + "];"
            self.assertEqual(len(form), size)
            self.check_all(form.replace(" ", ""), [form])

    def test_pieces_of_a_program_whose_form_has_more_than_600_bytes(self):
        self.check_all("do 1+1;" * 85, ["do 1 + 1;"] * 85)

    def test_depth_40(self):
        self.check_all("do 1" + "+1" * 38 + ";do 1;", ["do 1" + " + 1" * 38 + ";", "do 1;"])
        self.check_all("do fn(){" * 20 + "};" * 20, ["do fn () { " * 19 + "do fn () {};" + " };" * 19])


class Refusals(Cases):
    numbers = (-FAR, -601, -2, -1, 0, 1, 2, 3, 600, FAR)

    def test_no_such_statement(self):
        for k in self.numbers:
            for text in ("", " ", "# show 1;", "\n"):
                self.check(((k, text, [-3]),))
        for k in (-FAR, -3, -2, -1, 3, 4, FAR):
            self.check(((k, "show 1; show 2; show 3;", [-3]),))

    def test_not_good(self):
        for number, texts in FAULTY:
            for text in texts:
                self.assertEqual(fault_of(text)[0], number)
                self.check([(k, text, [-2]) for k in self.numbers])

    def test_a_good_statement_in_a_text_that_is_not_good(self):
        for text in ("\t", "$", "(" * 25, "show", "do a" + ".b" * 39 + ";"):
            self.check([(k, "show 1; show 2; " + text, [-2]) for k in self.numbers])

    def test_more_than_600_bytes(self):
        self.check((
            (0, "show 1;" + " " * 593, "show 1;"),
            (1, "show 1;" + " " * 593, [-3]),
            (0, " " * 600, [-3]),
        ))
        for k in self.numbers:
            self.check([(k, "show 1;" + " " * size, [-1]) for size in (594, 1993)])
            self.check([(k, sign * size, [-1]) for sign in " \t$(a#" for size in (601, 2000)])


class HandedIn(HandedInCases, unittest.TestCase):
    handed = (
        (0, ""), (0, "show 1;"), (1, "show 1;"), (-1, "show 1;"), (FAR, "show 1;"), (-FAR, "$"), (0, "\t"),
        (0, "(" * 25), (0, "show ("), (0, "do 1" + "+1" * 50 + ";"), (0, 'choice x = 0 in "a\\n";'), (0, " " * 601),
        (1, "do 1; for x in fn f(a, b) { set a = r.x; } { slider y = 1 in 2, 3; } # x"), (0, "show name; let name = a;"),
        (1, "show name; let name = a;"), (0, "do (name: [name, name.name(name)]);"), (0, "slider x = -0 in -1, 1;"),
    )

    def call(self, k, text):
        return cells.piece(k, text)


if __name__ == "__main__":
    unittest.main()
