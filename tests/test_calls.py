"""All nine calls on the same texts, drawn at random, good ones and spoilt ones: their answers must agree."""

import inspect
import sys
import unittest

from celltexts import cells
from tests.helper import Dice, Untouchable, counted, in_threes, to_bytes
from tests.test_grammar import draw, spread
from tests.test_trees import BRACKETED, FORM, draw_statement

CALLS = {
    "fault": lambda text: cells.fault(text),
    "form": lambda text: cells.form(text),
    "tokens": lambda text: cells.tokens(text),
    "tree": lambda text: cells.tree(text),
    "same": lambda text: cells.same(text, text),
    "places": lambda text: cells.places(text),
    "piece": lambda text: cells.piece(0, text),
    "splice": lambda text: cells.splice(0, 0, text, text),
    "weigh": lambda text: cells.weigh(text),
}

# The calls with two texts, with the text in question in one place and a good one in the other.
BESIDE_A_GOOD_ONE = (
    lambda text: cells.same(text, []),
    lambda text: cells.same([], text),
    lambda text: cells.splice(0, 0, text, []),
    lambda text: cells.splice(0, 0, [], text),
)

INTERFACE = {
    "fault": ["text"], "form": ["text"], "tokens": ["text"], "tree": ["text"], "same": ["text_a", "text_b"],
    "places": ["text"], "piece": ["k", "text"], "splice": ["k", "n", "text_a", "text_b"], "weigh": ["text"],
}

# Texts in which much is nested, some of them good.
NESTED = (
    "do " + "(" * 24 + "1" + ")" * 24 + ";", "do " + "[" * 24 + "]" * 24 + ";", "do " + "(x:" * 24 + "1" + ")" * 24 + ";",
    "do " + "f(" * 24 + "1" + ")" * 24 + ";", "do " + "cut(1,2," * 24 + "1" + ")" * 24 + ";", "if a{" * 24 + "}" * 24,
    "do fn(){" * 20 + "};" * 20, "do fn(){" * 24 + "};" * 24, "if fn(){" * 24 + "}{}" * 24, "do 1" + "+1" * 38 + ";",
    "do 1" + "+1" * 297 + ";", "do a" + ".b" * 297 + ";", "do a" + "()" * 297 + ";", "(" * 600, "do " + ")(" * 290,
    "do 1;" * 120, "if a{}" * 100, "do[" + "1," * 297 + "];", "do -" + "-" * 590, "do " + "not " * 140 + "1;",
)

ANY_SIGNS = [chr(byte) for byte in range(256)]
FITTING_SIGNS = list(' \n#"\\()[]{}<>=!+-*/%,;:.?$_a1n0')


class TreeReader:
    """Reads a tree's numbers back and tells its depth, statements and expressions."""

    def __init__(self, numbers):
        self.numbers = list(numbers)
        self.statements = 0
        self.expressions = 0

    def one(self):
        return self.numbers.pop(0)

    def bytes(self):
        for _ in range(self.one()):
            self.one()

    def several(self, read):
        return max([read() for _ in range(self.one())], default=0)

    def names(self):
        for _ in range(self.one()):
            self.bytes()

    def field(self):
        self.bytes()
        return self.expression()

    def program(self):
        return self.several(self.statement)

    def statement(self):
        self.statements += 1
        number = self.one()
        if number in (20, 21, 31, 32, 33):
            self.bytes()
        if number == 32:
            self.one(), self.one(), self.one()
            return 1
        if number == 33:
            self.one()
            self.names()
            return 1
        depths = [self.expression()]
        depths += [self.program() for _ in range({28: 1, 29: 2, 30: 1, 31: 1}.get(number, 0))]
        return 1 + max(depths)

    def expression(self):
        self.expressions += 1
        return 1 + self.below(self.one())

    def below(self, number):
        if number in (1, 2, 3, 4, 5, 6):
            if number == 1:
                self.one()
            elif number in (2, 6):
                self.bytes()
            return 0
        if number in (7, 8):
            return self.several(self.expression if number == 7 else self.field)
        if number in (11, 16):
            self.one()
        if number == 16:
            return self.several(self.expression)
        if number in (17, 18):
            if number == 18:
                self.bytes()
            self.names()
            return self.program()
        depths = [self.expression() for _ in range({11: 2, 12: 3, 14: 2}.get(number, 1))]
        if number == 13:
            depths.append(self.several(self.expression))
        if number == 15:
            self.bytes()
        return max(depths)


def draw_text(dice, number):
    """A good text most times, from the grammar or from trees; it may have more than 600 bytes."""
    if number % 2:
        return "".join([spread(dice, draw(dice, "STATEMENT", number % 5)) for _ in range(dice.below(5))])
    gaps = ("", " ", "\n", "# x\n")
    trees = [draw_statement(dice, number % 6) for _ in range(dice.below(6))]
    return "".join([dice.pick((BRACKETED, FORM)).statement(tree) + dice.pick(gaps) for tree in trees])


def spoil_a_byte(dice, text):
    """The text with a byte changed, put in or left out."""
    at = dice.below(len(text) + 1)
    sign = dice.pick(ANY_SIGNS if dice.below(4) == 0 else FITTING_SIGNS)
    return dice.pick((text[:at] + sign + text[at + 1:], text[:at] + sign + text[at:], text[:at] + text[at + 1:]))


class Interface(unittest.TestCase):
    def test_names_and_arguments(self):
        for name, arguments in INTERFACE.items():
            function = getattr(cells, name)
            self.assertEqual(list(inspect.signature(function).parameters), arguments)
            self.assertEqual(function.__module__, "celltexts.cells")

    def test_arguments_by_name(self):
        text = to_bytes("do 1; do 2;")
        values = {"k": 1, "n": 1, "text": text, "text_a": text, "text_b": []}
        for name, arguments in INTERFACE.items():
            handed = {argument: values[argument] for argument in arguments}
            self.assertEqual(getattr(cells, name)(**handed), getattr(cells, name)(*handed.values()))

    def test_half_of_the_thousand_calls_is_enough(self):
        limit = sys.getrecursionlimit()
        self.addCleanup(sys.setrecursionlimit, limit)
        for text in NESTED:
            for name, call in CALLS.items():
                with self.subTest(text=text, name=name):
                    handed = to_bytes(text)
                    sys.setrecursionlimit(limit)
                    expected = call(handed)
                    sys.setrecursionlimit(len(inspect.stack(0)) + 500)
                    self.assertEqual(call(handed), expected)
        sys.setrecursionlimit(limit)


class Agreement(unittest.TestCase):
    def ask(self, text):
        """Each call's answer; it is asked twice, with a text that must not be changed."""
        handed = Untouchable(text)
        answers = {name: call(handed) for name, call in CALLS.items()}
        for name in reversed(CALLS):
            self.assertEqual(CALLS[name](handed), answers[name])
            self.assertEqual({type(number) for number in answers[name]}, {int})
        self.assertEqual(list(handed), text)
        return answers

    def check(self, text):
        """Whether the text is good, and that all calls say so."""
        answers = self.ask(text)
        if len(text) > 600:
            self.check_refused(text, answers, list(CALLS), [-1])
            return False
        if answers["fault"] == [0]:
            self.check_tokens(text, answers)
            self.check_tree(answers)
            self.check_statements(text, answers)
            self.check_form(text, answers)
            return True
        self.check_fault(text, answers)
        return False

    def check_refused(self, text, answers, names, refusal):
        for name in names:
            self.assertEqual(answers[name], refusal, name)
        for call in BESIDE_A_GOOD_ONE:
            self.assertEqual(call(text), refusal)
        for k in (-1, 10 ** 18):
            self.assertEqual(cells.piece(k, text), refusal)
            self.assertEqual(cells.splice(k, 0, text, text), refusal)

    def check_fault(self, text, answers):
        number, told = answers["fault"]
        names = [name for name in CALLS if name not in ("fault", "tokens")]
        self.check_refused(text, answers, names, [-2])
        self.assertIn(number, (1, 2, 3, 4, 5))
        if number in (1, 2):
            self.assertEqual(answers["tokens"], [-2])
            self.assertLess(told, len(text))
            return
        tokens = {place: text[place:place + size] for kind, place, size in in_threes(answers["tokens"])}
        if number == 3:
            self.assertIn(tokens[told], ([40], [91], [123]))
        if number == 4 and told < len(text):
            self.assertIn(told, tokens)
        if number == 4:
            self.assertLessEqual(told, len(text))
        if number == 5:
            self.assertGreater(told, 40)

    def check_tokens(self, text, answers):
        tokens = in_threes(answers["tokens"])
        opening = [place for kind, place, size in tokens if text[place:place + size] in ([40], [91], [123])]
        self.assertEqual(answers["weigh"][3], len(opening))
        places = in_threes(answers["places"])
        inside = [token for token in tokens if any([start <= token[1] < end for start, end, depth in places])]
        self.assertEqual(inside, tokens)
        for start, end, depth in places:
            self.assertIn(start, [place for kind, place, size in tokens])
            self.assertIn(end, [place + size for kind, place, size in tokens])

    def check_tree(self, answers):
        reader = TreeReader(counted(answers["tree"]))
        depth = reader.program()
        self.assertEqual(reader.numbers, [])
        self.assertEqual(answers["weigh"][:3], [depth, reader.statements, reader.expressions])
        self.assertEqual(answers["weigh"][0], max([depth for start, end, depth in in_threes(answers["places"])], default=0))
        self.assertLessEqual(depth, 40)
        self.assertEqual(answers["tree"][1], answers["places"][0])

    def check_statements(self, text, answers):
        places = in_threes(answers["places"])
        size = len(places)
        for k in (-1, size, size + 1):
            self.assertEqual(cells.piece(k, text), [-3])
        pieces = []
        sums = [0, 0, 0, 0]
        for k, (start, end, depth) in enumerate(places):
            alone = text[start:end]
            piece = cells.piece(k, text)
            self.assertEqual(cells.form(alone), piece)
            self.assertEqual(cells.places(alone), [1, 0, end - start, depth])
            sums = [sum(pair) for pair in zip(sums, cells.weigh(alone)[1:])]
            pieces += [10] * (k > 0) + counted(piece)
        self.assertEqual(pieces, counted(answers["form"]))
        self.assertEqual(sums, answers["weigh"][1:])

    def check_form(self, text, answers):
        form = counted(answers["form"])
        spliced = answers["form"] if len(form) <= 600 else [-4]
        size = answers["places"][0]
        self.assertEqual(cells.splice(0, 0, [], text), spliced)
        self.assertEqual([cells.splice(k, 0, text, []) for k in (0, size)], [spliced, spliced])
        self.assertEqual(cells.splice(0, size, text, []), [0])
        self.assertEqual(cells.splice(0, size, text, text), spliced)
        self.assertEqual([cells.splice(k, 0, text, text) for k in (-1, size + 1)], [[-3], [-3]])
        self.assertEqual(answers["same"], [1])
        self.assertEqual(cells.same(text, []), [int(size == 0)])
        self.assertLessEqual(answers["weigh"][4], answers["weigh"][3])
        if len(form) <= 600:
            again = self.ask(form)
            self.assertEqual(again["fault"], [0])
            self.assertEqual((again["form"], again["tree"]), (answers["form"], answers["tree"]))
            self.assertEqual((cells.same(form, text), cells.same(text, form)), ([1], [1]))
            self.assertEqual(again["weigh"], answers["weigh"][:3] + [answers["weigh"][4]] * 2)
            self.assertEqual(again["places"][3::3], answers["places"][3::3])

    def test_drawn_texts(self):
        dice = Dice(21)
        good = 0
        for number in range(350):
            text = draw_text(dice, number)
            with self.subTest(text=text):
                good += self.check(to_bytes(text))
        self.assertGreater(good, 200)

    def test_spoilt_texts(self):
        dice = Dice(22)
        seen = {}
        for number in range(1200):
            text = draw_text(dice, number)
            for _ in range(1 + dice.below(2)):
                text = spoil_a_byte(dice, text)
            with self.subTest(text=text):
                self.check(to_bytes(text))
                answer = cells.fault(to_bytes(text))[0]
                seen[answer] = seen.get(answer, 0) + 1
        for answer in (-1, 0, 1, 2, 4):
            self.assertGreater(seen.get(answer, 0), 10, answer)

    def test_texts_at_the_edges(self):
        dice = Dice(23)
        for size in (22, 23, 24, 25, 26):
            for opening, closing in ("()", "[]"):
                text = f"do {opening * size}a{closing * size};"
                self.assertEqual(self.check(to_bytes(text)), size <= 24)
                for _ in range(10):
                    self.check(to_bytes(spoil_a_byte(dice, text)))
        for size in range(36, 42):
            for begun, more in (("do 1", "+1"), ("do a", ".b"), ("do a", "()"), ("do a", "[1]"), ("do a", " or b")):
                text = begun + more * size + ";"
                self.assertEqual(self.check(to_bytes(text)), size <= 38)
                for _ in range(5):
                    self.check(to_bytes(spoil_a_byte(dice, text)))
        for size in (598, 599, 600, 601, 602):
            for sign in (" ", "\n", "#"):
                self.assertEqual(self.check(to_bytes("do 1+1;" + sign * (size - 7))), size <= 600)

    def test_nested_texts(self):
        for text in NESTED:
            with self.subTest(text=text):
                self.check(to_bytes(text))

    def test_long_forms(self):
        dice = Dice(24)
        long = 0
        for number in range(20):
            parts = [dice.pick(("do 1+1;", "if a{}", "do[1,2,3];", "let x=1;", "do(a);")) for _ in range(50 + number * 3)]
            text = "".join(parts)[:600]
            text = text[:max(text.rfind(";"), text.rfind("}")) + 1]
            self.assertTrue(self.check(to_bytes(text)), text)
            long += cells.form(to_bytes(text))[0] > 600
        self.assertGreater(long, 5)
        self.assertLess(long, 20)

    def test_splices_as_if_written_by_hand(self):
        """A splice is the form of the text in which the statements' own bytes are put together."""
        dice = Dice(25)
        other = []
        tried = 0
        for number in range(1000):
            text = to_bytes(draw_text(dice, number))
            if cells.fault(text) != [0]:
                continue
            places = in_threes(cells.places(text))
            k = dice.below(len(places) + 1)
            n = dice.below(len(places) + 1 - k)
            before = sum([text[start:end] for start, end, depth in places[:k]], [])
            behind = sum([text[start:end] for start, end, depth in places[k + n:]], [])
            by_hand = before + other + [10] + behind
            answer = cells.splice(k, n, text, other)
            if len(by_hand) <= 600:
                form = cells.form(by_hand)
                self.assertEqual(answer, form if form[0] <= 600 else [-4])
                tried += answer != [-4]
            if answer != [-4]:
                self.assertEqual(cells.fault(counted(answer)), [0])
            other = text
        self.assertGreater(tried, 200)

    def test_same_is_told_by_trees_and_by_forms(self):
        dice = Dice(26)
        good = []
        for _ in range(60):
            sides = [dice.pick(("a", "(a)", "-a", "- (a)", "a * a", "(a * a)", "(a + a)")) for _ in range(2)]
            good.append(to_bytes(f"do {sides[0]} {dice.pick('+*')} {sides[1]};"))
        alike = 0
        for text in good:
            for other in good:
                answer = cells.same(text, other)
                self.assertEqual(answer, [int(cells.tree(text) == cells.tree(other))])
                self.assertEqual(answer, [int(cells.form(text) == cells.form(other))])
                alike += answer[0]
        self.assertGreater(alike, len(good))
        self.assertLess(alike, len(good) ** 2 // 2)


if __name__ == "__main__":
    unittest.main()
