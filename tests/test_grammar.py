"""The document's grammar, word for word, against the program.

The grammar is read as it stands there and tried by Earley's way, which knows after each token whether a program can
still begin so. The texts are drawn from the grammar and then spoilt.
"""

import re
import unittest

from tests.helper import Dice, fault_of, tokens_of

GRAMMAR = '''
    PROGRAM  = STATEMENT*
    BLOCK    = "{" STATEMENT* "}"
    STATEMENT = "let" NAME "=" E ";"  |  "set" NAME "=" E ";"
             | "show" E ";" | "table" E ";" | "plot" E ";" | "check" E ";"
             | "do" E ";" | "give" E ";"
             | "if" E BLOCK ("else" BLOCK)?
             | "while" E BLOCK
             | "for" NAME "in" E BLOCK
             | "slider" NAME "=" WHOLE "in" WHOLE "," WHOLE ";"
             | "choice" NAME "=" NUMBER "in" QUOTED ("," QUOTED)* ";"
    WHOLE    = "-"? NUMBER
    E        = OR ("?" OR ":" OR)?
    OR       = AND ("or" AND)*
    AND      = NOT ("and" NOT)*
    NOT      = "not"? COMPARED
    COMPARED = JOINED (("==" | "!=" | "<" | "<=" | ">" | ">=") JOINED)?
    JOINED   = SUM ("++" SUM)*
    SUM      = PRODUCT (("+" | "-") PRODUCT)*
    PRODUCT  = SIGNED (("*" | "/" | "%") SIGNED)*
    SIGNED   = "-"? REACHED
    REACHED  = SIMPLE ( "(" LISTED ")" | "[" E "]" | "." NAME )*
    LISTED   = ( E ("," E)* )?
    SIMPLE   = NUMBER | QUOTED | "yes" | "no" | "none" | NAME
             | "[" LISTED "]"
             | "(" ":" ")"
             | "(" NAME ":" E ("," NAME ":" E)* ")"
             | "(" E ")"
             | "fn" NAME? "(" ( NAME ("," NAME)* )? ")" BLOCK
             | ("len" | "keys" | "text" | "num" | "roll") "(" E ")"
             | ("cut" | "with") "(" E "," E "," E ")"
'''

RESERVED = (
    "let set show table plot check slider choice if else while for in do give fn and or not yes no none len keys text"
    " num roll cut with"
).split()

SIGNS = "== != <= >= ++ + - * / % < > = ( ) [ ] { } , ; : . ?".split()

LEAVES = {
    "NAME": ("a", "bc", "_x1", "Let", "shows", "a234567890123456"),
    "NUMBER": ("0", "1", "70", "123456789012345678901234567890"),
    "QUOTED": ('""', '"a"', '"# ( { "', '"\\\\\\"\\n"'),
}

TOKEN = re.compile(
    r'(?P<gap>[ \n]+|#[^\n]*)|(?P<NAME>[A-Za-z_][A-Za-z0-9_]*)|(?P<NUMBER>[0-9]+)'
    r'|(?P<QUOTED>"(?:\\[\\"n]|[^\\"\n])*")|(?P<sign>==|!=|<=|>=|\+\+|[-+*/%<>=()\[\]{},;:.?])'
)


class Rules:
    """Plain rules: for each name the tuples of what it may be; brackets, ? and * are given names of their own."""

    def __init__(self, written):
        self.rules = {}
        self.pieces = re.findall(r'"[^"]+"|[A-Z]+(?=\s*=\s)|[A-Z]+|[=|?*()]', written)
        self.at = 0
        while self.at < len(self.pieces):
            name = self.pieces[self.at]
            self.at += 2
            self.rules[name] = self.choices()

    def look(self, ahead=0):
        return self.pieces[self.at + ahead] if self.at + ahead < len(self.pieces) else ""

    def choices(self):
        found = [self.row()]
        while self.look() == "|":
            self.at += 1
            found.append(self.row())
        return tuple(found)

    def row(self):
        found = []
        while self.look() not in ("", "|", ")") and self.look(1) != "=":
            found.append(self.item())
        return tuple(found)

    def item(self):
        item = self.pieces[self.at]
        self.at += 1
        if item == "(":
            item = self.named(self.choices())
            self.at += 1
        if self.look() == "?":
            self.at += 1
            return self.named(((), (item,)))
        if self.look() == "*":
            self.at += 1
            name = self.named(())
            self.rules[name] = ((), (item, name))
            return name
        return item

    def named(self, choices):
        name = f"part {len(self.rules)}"
        self.rules[name] = choices
        return name


RULES = Rules(GRAMMAR).rules


def nullable_names():
    found = set()
    while True:
        more = {name for name, rows in RULES.items() if any(all(item in found for item in row) for row in rows)}
        if more == found:
            return found
        found = more


NULLABLE = nullable_names()


def completed(states, sets):
    """All states that follow from these without another token."""
    here = len(sets)
    sets.append(states)
    waiting = list(states)
    while waiting:
        name, row, dot, start = waiting.pop()
        found = []
        if dot == len(row):
            for other in list(sets[start]):
                if other[2] < len(other[1]) and other[1][other[2]] == name:
                    found.append((other[0], other[1], other[2] + 1, other[3]))
        elif row[dot] in RULES:
            found = [(row[dot], choice, 0, here) for choice in RULES[row[dot]]]
            if row[dot] in NULLABLE:
                found.append((name, row, dot + 1, start))
        for state in found:
            if state not in states:
                states.add(state)
                waiting.append(state)


def first_misfit(kinds):
    """The number of the first token with which no program begins; how many there are if it ends too early; else -1."""
    sets = []
    completed({("start", ("PROGRAM",), 0, 0)}, sets)
    for number, kind in enumerate(kinds):
        states = {
            (name, row, dot + 1, start) for name, row, dot, start in sets[number] if dot < len(row) and row[dot] == kind
        }
        if not states:
            return number
        completed(states, sets)
    return -1 if ("start", ("PROGRAM",), 1, 0) in sets[len(kinds)] else len(kinds)


def wrong_token(kind, token):
    if kind == "NAME":
        return len(token) > 16
    return kind == "NUMBER" and (len(token) > 30 or (len(token) > 1 and token[0] == "0"))


def cut(text):
    """The fault 1 or 2 with its place, or [0]; and the tokens ahead of it, each with its place and kind."""
    tokens = []
    for place, sign in enumerate(text):
        if sign != "\n" and not " " <= sign <= "~":
            return [1, place], tokens
    place = 0
    while place < len(text):
        match = TOKEN.match(text, place)
        if match is None or wrong_token(match.lastgroup, match.group()):
            return [2, place], tokens
        if match.lastgroup != "gap":
            tokens.append((place, match.lastgroup, match.group()))
        place = match.end()
    return [0], tokens


def expected_tokens(text):
    fault, tokens = cut(text)
    if fault != [0]:
        return [-2]
    numbers = {"NAME": 1, "NUMBER": 3, "QUOTED": 4, "sign": 5}
    return [(2 if token in RESERVED else numbers[kind], place, len(token)) for place, kind, token in tokens]


def expected_fault(text):
    """The fault with its place; [0] also for a program that is too deep."""
    fault, tokens = cut(text)
    if fault != [0]:
        return fault
    deep = 0
    for place, kind, token in tokens:
        deep += (token in ("(", "[", "{")) - (token in (")", "]", "}"))
        if token in ("(", "[", "{") and deep >= 25:
            return [3, place]
    kinds = [
        kind if kind in LEAVES and token not in RESERVED else f'"{token}"' for place, kind, token in tokens
    ]
    misfit = first_misfit(kinds)
    if misfit == -1:
        return [0]
    return [4, tokens[misfit][0] if misfit < len(tokens) else len(text)]


def draw(dice, name, room):
    """Tokens of that line of the grammar; the less room there is, the shorter."""
    if name in LEAVES:
        return [dice.pick(LEAVES[name])]
    if name not in RULES:
        return [name[1:-1]]
    rows = RULES[name]
    if room <= 0:
        rows = [row for row in rows if not any(item in ("E", "BLOCK", "LISTED", "STATEMENT") for item in row)] or rows
        rows = [row for row in rows if row == ()] or rows
    elif name != "PROGRAM" and () in rows and dice.below(3) > 0:
        rows = ((),)
    tokens = []
    for item in dice.pick(rows):
        tokens.extend(draw(dice, item, room - (name in ("STATEMENT", "E", "SIMPLE"))))
    return tokens


def spoil(dice, tokens):
    tokens = list(tokens)
    others = RESERVED + SIGNS + ["a", "1", '"a"']
    for _ in range(dice.below(3)):
        at = dice.below(len(tokens) + 1)
        way = dice.below(5)
        if way == 0:
            tokens[at:at + 1] = []
        elif way == 1:
            tokens[at:at + 1] = [dice.pick(others)]
        elif way == 2:
            tokens[at:at] = [dice.pick(others)]
        elif way == 3:
            tokens[at:at + 2] = tokens[at:at + 2][::-1]
        else:
            tokens = tokens[:at]
    return tokens


def spread(dice, tokens):
    gaps = (" ", " ", " ", "\n", "  ", " # ;(\n", "")
    text = dice.pick(gaps)
    for token in tokens:
        text += token + dice.pick(gaps)
    return text


class AgainstTheGrammar(unittest.TestCase):
    def check(self, text):
        self.assertEqual(tokens_of(text), expected_tokens(text), text)
        answer = fault_of(text)
        expected = expected_fault(text)
        if expected == [0] and answer[0] == 5:
            return
        self.assertEqual(answer, expected, text)

    def test_the_rules_are_read_as_they_stand(self):
        self.assertEqual(len([name for name in RULES if name.isupper()]), 16)
        self.assertEqual(len(RULES["STATEMENT"]), 13)
        self.assertEqual(len(RULES["SIMPLE"]), 13)
        self.assertEqual(RULES["SIMPLE"][7], ('"("', '":"', '")"'))

    def test_drawn_texts(self):
        dice = Dice(1)
        good = 0
        for number in range(1500):
            tokens = draw(dice, "STATEMENT", number % 6)
            text = spread(dice, tokens if number % 4 == 0 else spoil(dice, tokens))
            if len(text) <= 300:
                self.check(text)
                good += fault_of(text) == [0]
        self.assertGreater(good, 300)

    def test_every_token_behind_every_beginning(self):
        beginnings = set()
        dice = Dice(2)
        for number in range(40):
            tokens = draw(dice, "STATEMENT", 3)[:25]
            beginnings.add(" ".join(tokens[:dice.below(len(tokens) + 1)]))
        for beginning in sorted(beginnings):
            for token in RESERVED + SIGNS + ["a", "1", '"a"']:
                self.check(beginning + " " + token)

    def test_rows_of_any_signs(self):
        dice = Dice(3)
        signs = [chr(byte) for byte in range(32, 127)] + ["\n", "\t", "==", "show ", '"', "\\"]
        for _ in range(1500):
            self.check("".join([dice.pick(signs) for _ in range(dice.below(12))]))
            self.check("show " + "".join([dice.pick('ab019 "\\n#\n=<>!+-') for _ in range(dice.below(9))]) + ";")


if __name__ == "__main__":
    unittest.main()
