import unittest

from celltexts import cells
from tests.helper import HandedInCases, fault_of, to_bytes, tokens_of

NAME, RESERVED, NUMBER, QUOTED, SIGN = 1, 2, 3, 4, 5

RESERVED_WORDS = (
    "let", "set", "show", "table", "plot", "check", "slider", "choice", "if", "else", "while", "for", "in", "do",
    "give", "fn", "and", "or", "not", "yes", "no", "none", "len", "keys", "text", "num", "roll", "cut", "with",
)
TWO_BYTE_SIGNS = ("==", "!=", "<=", ">=", "++")
ONE_BYTE_SIGNS = "+-*/%<>=()[]{},;:.?"


class Cases(unittest.TestCase):
    def check(self, cases):
        for text, answer in cases:
            with self.subTest(text=text):
                self.assertEqual(tokens_of(text), answer)

    def check_alone(self, texts, kind):
        """Each is one token, at the text's beginning, behind something and before something."""
        for text in texts:
            size = len(text)
            self.check((
                (text, [(kind, 0, size)]),
                (f"\n {text}# x", [(kind, 2, size)]),
                (f"; {text} ;", [(SIGN, 0, 1), (kind, 2, size), (SIGN, 3 + size, 1)]),
            ))


class Answers(Cases):
    def test_as_numbers(self):
        self.assertEqual(cells.tokens([]), [0])
        self.assertEqual(
            cells.tokens(to_bytes('let ab = 12 + "c";')),
            [7, 2, 0, 3, 1, 4, 2, 5, 7, 1, 3, 9, 2, 5, 12, 1, 4, 14, 3, 5, 17, 1],
        )

    def test_blanks_and_comments_alone(self):
        self.check([(text, []) for text in (
            "", " ", "\n", " \n  \n", "#", "# a", "# a\n", "#\n#\n", " # show 1; \n ", '# "', "# $ !\n", " " * 600,
            "#" * 600,
        )])

    def test_blanks_and_comments_between(self):
        self.check((
            ("a b", [(NAME, 0, 1), (NAME, 2, 1)]),
            ("a\n\n b", [(NAME, 0, 1), (NAME, 4, 1)]),
            ("a#b\nc", [(NAME, 0, 1), (NAME, 4, 1)]),
            ("a#b c", [(NAME, 0, 1)]),
            ("a#b#c\nd#", [(NAME, 0, 1), (NAME, 6, 1)]),
            ("+#\n+", [(SIGN, 0, 1), (SIGN, 3, 1)]),
            ("1 # 2 \n # 3 \n 4", [(NUMBER, 0, 1), (NUMBER, 14, 1)]),
        ))


class Kinds(Cases):
    def test_names(self):
        self.check_alone(("a", "Z", "_", "__", "a1", "_0", "aB_9z", "x" * 16, "_" + "9" * 15), NAME)

    def test_reserved_words(self):
        self.assertEqual(len(RESERVED_WORDS), 29)
        self.check_alone(RESERVED_WORDS, RESERVED)

    def test_words_that_are_nearly_reserved(self):
        for word in RESERVED_WORDS:
            self.check_alone((word + "s", word + "_", word + "1", "_" + word, "x" + word, word + word), NAME)
            self.check_alone((word.upper(), word.title(), word[:-1] + word[-1].upper()), NAME)
        self.check_alone(("NAME", "NUMBER", "QUOTED", "END", "percent", "minus", "list", "record"), NAME)

    def test_beginnings_of_reserved_words(self):
        beginnings = [word[:size] for word in RESERVED_WORDS for size in range(1, len(word))]
        self.check_alone([word for word in beginnings if word not in RESERVED_WORDS], NAME)

    def test_numbers(self):
        self.check_alone(("0", "7", "10", "1234567890", "9" * 30), NUMBER)

    def test_quoted_texts_take_what_stands_in_the_text(self):
        self.check_alone(('""', '"a"', '"let"', '"12"', '" "', '"a + b"'), QUOTED)
        self.check_alone(('"\\\\"', '"\\""', '"\\n"', '"\\\\\\"\\n"', '"a\\\\"', '"\\"\\""', '"\\\\n"'), QUOTED)
        self.check((
            ('"\\\\"', [(QUOTED, 0, 4)]),
            ('"\\"" "a\\nb"', [(QUOTED, 0, 4), (QUOTED, 5, 6)]),
            ('"a""b"', [(QUOTED, 0, 3), (QUOTED, 3, 3)]),
            ('""""', [(QUOTED, 0, 2), (QUOTED, 2, 2)]),
            ('"' + "a" * 598 + '"', [(QUOTED, 0, 600)]),
        ))

    def test_every_byte_of_a_quoted_text(self):
        for byte in range(256):
            allowed = 32 <= byte <= 126 and byte not in (34, 92)
            with self.subTest(byte=byte):
                self.assertEqual(cells.tokens([34, byte, 34]), [1, 4, 0, 3] if allowed else [-2])

    def test_signs(self):
        self.check_alone(TWO_BYTE_SIGNS, SIGN)
        self.check_alone(ONE_BYTE_SIGNS, SIGN)

    def test_comment_signs_in_and_out_of_quoted_texts(self):
        self.check((
            ('"#"', [(QUOTED, 0, 3)]),
            ('"a#b" c', [(QUOTED, 0, 5), (NAME, 6, 1)]),
            ('"a"#"b"', [(QUOTED, 0, 3)]),
            ('"a"#b\n"c"', [(QUOTED, 0, 3), (QUOTED, 6, 3)]),
            ('"\\"#" a', [(QUOTED, 0, 5), (NAME, 6, 1)]),
            ('"\\\\"# a', [(QUOTED, 0, 4)]),
            ('# "\n#"\na', [(NAME, 7, 1)]),
        ))


class AsLongAsCanBe(Cases):
    def test_numbers_and_words(self):
        self.check((
            ("12ab", [(NUMBER, 0, 2), (NAME, 2, 2)]),
            ("12if", [(NUMBER, 0, 2), (RESERVED, 2, 2)]),
            ("0x1", [(NUMBER, 0, 1), (NAME, 1, 2)]),
            ("1_2", [(NUMBER, 0, 1), (NAME, 1, 2)]),
            ("ab12", [(NAME, 0, 4)]),
            ("1.5", [(NUMBER, 0, 1), (SIGN, 1, 1), (NUMBER, 2, 1)]),
            ("-1", [(SIGN, 0, 1), (NUMBER, 1, 1)]),
            ("9" * 30 + "x" * 16, [(NUMBER, 0, 30), (NAME, 30, 16)]),
            ("elseif", [(NAME, 0, 6)]),
            ("else if", [(RESERVED, 0, 4), (RESERVED, 5, 2)]),
            ('a"b"c', [(NAME, 0, 1), (QUOTED, 1, 3), (NAME, 4, 1)]),
        ))

    def test_signs(self):
        for two in TWO_BYTE_SIGNS:
            for one in ONE_BYTE_SIGNS:
                if two[1] + one not in TWO_BYTE_SIGNS:
                    self.check(((two + one, [(SIGN, 0, 2), (SIGN, 2, 1)]),))
                if one + two[0] not in TWO_BYTE_SIGNS:
                    self.check(((one + two, [(SIGN, 0, 1), (SIGN, 1, 2)]),))
        for first in ONE_BYTE_SIGNS:
            for second in ONE_BYTE_SIGNS:
                apart = [(SIGN, 0, 1), (SIGN, 1, 1)]
                pair = first + second
                self.check(((pair, [(SIGN, 0, 2)] if pair in TWO_BYTE_SIGNS else apart),))
                self.check(((first + " " + second, [(SIGN, 0, 1), (SIGN, 2, 1)]),))

    def test_rows_of_the_same_sign(self):
        self.check((
            ("===", [(SIGN, 0, 2), (SIGN, 2, 1)]),
            ("====", [(SIGN, 0, 2), (SIGN, 2, 2)]),
            ("+++", [(SIGN, 0, 2), (SIGN, 2, 1)]),
            ("---", [(SIGN, 0, 1), (SIGN, 1, 1), (SIGN, 2, 1)]),
            ("<==", [(SIGN, 0, 2), (SIGN, 2, 1)]),
            ("!==", [(SIGN, 0, 2), (SIGN, 2, 1)]),
            ("=>", [(SIGN, 0, 1), (SIGN, 1, 1)]),
        ))


class OtherFaults(Cases):
    def test_brackets_too_deep(self):
        for text in ("(" * 25, "[{(" * 9, "(" * 600):
            self.assertEqual(fault_of(text)[0], 3)
            self.check(((text, [(SIGN, place, 1) for place in range(len(text))]),))

    def test_no_program(self):
        for text, answer in (
            ("show 1", [(RESERVED, 0, 4), (NUMBER, 5, 1)]),
            ("let len = 1;", [(RESERVED, 0, 3), (RESERVED, 4, 3), (SIGN, 8, 1), (NUMBER, 10, 1), (SIGN, 11, 1)]),
            (") else", [(SIGN, 0, 1), (RESERVED, 2, 4)]),
            ("a", [(NAME, 0, 1)]),
        ):
            self.assertEqual(fault_of(text)[0], 4)
            self.check(((text, answer),))

    def test_program_too_deep(self):
        text = "do 1" + "+1" * 50 + ";"
        self.assertEqual(fault_of(text)[0], 5)
        joined = [(SIGN if place % 2 == 0 else NUMBER, place, 1) for place in range(4, 104)]
        self.check(((text, [(RESERVED, 0, 2), (NUMBER, 3, 1)] + joined + [(SIGN, 104, 1)]),))


class Refusals(Cases):
    def test_bytes_that_are_not_allowed(self):
        for byte in range(256):
            allowed = byte == 10 or 32 <= byte <= 126
            with self.subTest(byte=byte):
                self.assertEqual(cells.tokens([97, 35, byte]), [1, 1, 0, 1] if allowed else [-2])
        self.check([(text, [-2]) for text in ("\t", "show 1;\r\n", '"a\tb"', "# \x7f", "a\x00", "\xff", "show 1;\t")])

    def test_wrong_tokens(self):
        self.check([(text, [-2]) for text in (
            "x" * 17, "_" + "9" * 16, "9" * 31, "00", "007", "01", '"', '"a', '"a\n"', '"\\', '"\\"', '"\\t"', '"\\\n"',
            "!", "! =", "$", "\\", "a & b", "'a'", "@", "^", "`", "|", "~",
        )])

    def test_wrong_tokens_behind_good_ones(self):
        good = "let ab = 12 + \"c\"; # d\n"
        self.check([(good + text, [-2]) for text in ("$", "x" * 17, "00", "9" * 31, '"a', '"\\a"', "a !b", "\t")])
        self.check(((good + "# $", tokens_of(good)), ("(" * 25 + "$", [-2]), (") 1 00", [-2])))

    def test_more_than_600_bytes(self):
        for sign in " a(\t$\"!0#;":
            for size in (601, 602, 2000):
                self.check(((sign * size, [-1]),))
        self.check(((" " * 600 + "$", [-1]), (" " * 600 + "\t", [-1]), ("\xff" + " " * 600, [-1])))

    def test_600_bytes(self):
        for sign in ONE_BYTE_SIGNS:
            if sign * 2 not in TWO_BYTE_SIGNS:
                self.check(((sign * 600, [(SIGN, place, 1) for place in range(600)]),))
        answer = cells.tokens(to_bytes(";" * 600))
        self.assertEqual((len(answer), answer[0], answer[-3:]), (1801, 600, [5, 599, 1]))
        self.check((
            ("=" * 600, [(SIGN, place, 2) for place in range(0, 600, 2)]),
            (" " * 599 + "a", [(NAME, 599, 1)]),
            (" " * 599 + "$", [-2]),
            (" " * 599 + "\t", [-2]),
        ))


class HandedIn(HandedInCases, unittest.TestCase):
    handed = [(text,) for text in (
        "", "show 1;", "$", "\t", "(" * 25, "show (", 'choice x = 0 in "a\\n";', "let name = other; # x", " " * 601,
    )]

    def call(self, text):
        return cells.tokens(text)


if __name__ == "__main__":
    unittest.main()
