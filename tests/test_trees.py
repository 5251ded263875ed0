"""Trees that the tests make themselves: written with brackets everywhere, in the form as the document tells it, and as
the numbers of the document's list.

A tree here is a tuple: its kind, then its parts, texts and lists in the order written.
"""

import unittest

from tests.helper import (
    Dice, fault_of, form_of, piece_of, places_of, same_of, splice_of, to_bytes, tree_of, weigh_of,
)

LEAVES = ("0", "1", "42", '""', '"a\\n\\"\\\\"', "yes", "no", "none", "a", "b_1", "Not")
NAMES = ("x", "y", "z2")
BETWEEN = {
    "or": (1, 1, 2), "and": (2, 2, 3), "==": (4, 5, 5), "!=": (4, 5, 5), "<": (4, 5, 5), "<=": (4, 5, 5),
    ">": (4, 5, 5), ">=": (4, 5, 5), "++": (5, 5, 6), "+": (6, 6, 7), "-": (6, 6, 7), "*": (7, 7, 8), "/": (7, 7, 8),
    "%": (7, 7, 8),
}
STRENGTHS = {"?": 0, "not": 3, "minus": 8, "call": 9, "element": 9, "field": 9}
WORDS = {"len": 1, "keys": 1, "text": 1, "num": 1, "roll": 1, "cut": 3, "with": 3}
SHOWING = ("show", "table", "plot", "check", "do", "give")
KINDS = ["leaf", "?", "not", "minus", "call", "element", "field", "list", "record", "fn"]


def draw_expression(dice, room):
    kind = dice.pick(KINDS + list(BETWEEN) + list(WORDS)) if room > 0 else "leaf"
    if kind == "leaf":
        return (kind, dice.pick(LEAVES))
    if kind == "field":
        return (kind, draw_expression(dice, room - 1), dice.pick(NAMES))
    if kind == "fn":
        return (kind, dice.pick(("",) + NAMES), [dice.pick(NAMES) for _ in range(dice.below(3))], draw_block(dice, room))
    sizes = {"?": 3, "not": 1, "minus": 1, "element": 2, "call": 1 + dice.below(3), "list": dice.below(3)}
    sizes["record"] = dice.below(3)
    size = WORDS.get(kind, sizes.get(kind, 2))
    parts = [draw_expression(dice, room - 1) for _ in range(size)]
    if kind == "record":
        return (kind, [dice.pick(NAMES) for _ in parts], parts)
    return (kind, parts)


def draw_block(dice, room):
    return [draw_statement(dice, room - 1) for _ in range(dice.below(3) if room > 0 else 0)]


def draw_statement(dice, room):
    kind = dice.pick(SHOWING + ("let", "set", "if", "if else", "while", "for", "slider", "choice"))
    if kind == "slider":
        return (kind, dice.pick(NAMES), [dice.below(5) - 2 for _ in range(3)])
    if kind == "choice":
        return (kind, dice.pick(NAMES), dice.below(30), [dice.pick(('"a"', '""')) for _ in range(1 + dice.below(2))])
    blocks = [draw_block(dice, room) for _ in range({"if": 1, "if else": 2, "while": 1, "for": 1}.get(kind, 0))]
    return (kind, dice.pick(NAMES), draw_expression(dice, room), blocks)


def parts_of(tree):
    kind = tree[0]
    if kind in ("leaf", "slider", "choice"):
        return []
    if kind == "field":
        return [tree[1]]
    if kind == "fn":
        return tree[3]
    if kind == "record":
        return tree[2]
    if len(tree) == 4:
        return [tree[2]] + sum(tree[3], [])
    return tree[1]


def depth_of(tree):
    return 1 + max([depth_of(part) for part in parts_of(tree)], default=0)


def trees_within(tree):
    return sum([trees_within(part) for part in parts_of(tree)], [tree])


def opening_brackets(text):
    """No quoted text and no comment that is drawn here has a bracket."""
    return len([sign for sign in text if sign in "([{"])


class Writer:
    """Writes trees; `expression` says where brackets stand, `gap` what stands where a blank may be."""

    def __init__(self, expression, gap):
        self.expression = expression
        self.gap = gap

    def statement(self, tree):
        kind, name = tree[0], tree[1]
        gap = self.gap
        if kind == "slider":
            first, low, high = tree[2]
            return f"slider {name}{gap}={gap}{first} in {low},{gap}{high};"
        if kind == "choice":
            return f"choice {name}{gap}={gap}{tree[2]} in {f',{gap}'.join(tree[3])};"
        value = self.expression(self, tree[2], 0)
        blocks = f"{gap}else{gap}".join([self.block(block) for block in tree[3]])
        if kind in ("let", "set"):
            return f"{kind} {name}{gap}={gap}{value};"
        if kind == "for":
            return f"for {name} in {value}{gap}{blocks}"
        if blocks:
            return f"{kind.split()[0]} {value}{gap}{blocks}"
        return f"{kind} {value};"

    def block(self, statements):
        if not statements:
            return "{}"
        gap = self.gap
        return f"{{{gap}{gap.join([self.statement(statement) for statement in statements])}{gap}}}"

    def bare(self, tree):
        kind = tree[0]
        gap = self.gap
        if kind == "leaf":
            return tree[1]
        if kind == "field":
            return f"{self.expression(self, tree[1], 9)}.{tree[2]}"
        if kind == "fn":
            return f"fn {tree[1]}({f',{gap}'.join(tree[2])}){gap}{self.block(tree[3])}"
        if kind == "record":
            fields = [f"{name}:{gap}{self.expression(self, part, 0)}" for name, part in zip(tree[1], tree[2])]
            return f"({f',{gap}'.join(fields) or ':'})"
        wanted = {"?": [1, 1, 1], "not": [4], "minus": [9], "call": [9, 0, 0], "element": [9, 0]}.get(kind, [0, 0, 0])
        wanted = BETWEEN[kind][1:] if kind in BETWEEN else wanted
        parts = [self.expression(self, part, strength) for part, strength in zip(tree[1], wanted)]
        if kind in BETWEEN:
            return f"{parts[0]} {kind} {parts[1]}"
        if kind == "?":
            return f"{parts[0]}{gap}?{gap}{parts[1]}{gap}:{gap}{parts[2]}"
        first = parts[0] if parts else ""
        listed = f",{gap}".join(parts)
        others = f",{gap}".join(parts[1:])
        ways = {
            "not": f"not {first}", "minus": f"-{first}", "call": f"{first}({others})", "element": f"{first}[{others}]",
            "list": f"[{listed}]",
        }
        return ways.get(kind, f"{kind}({listed})")


def with_few_brackets(writer, tree, wanted):
    kind = tree[0]
    strength = BETWEEN[kind][0] if kind in BETWEEN else STRENGTHS.get(kind, 10)
    return f"({writer.bare(tree)})" if wanted > strength else writer.bare(tree)


def with_all_brackets(writer, tree, wanted):
    return writer.bare(tree) if tree[0] == "leaf" else f"({writer.bare(tree)})"


FORM = Writer(with_few_brackets, " ")
BRACKETED = Writer(with_all_brackets, "")


SAYS = {'""': [], '"a"': [97], '"a\\n\\"\\\\"': [97, 10, 34, 92]}
NUMBERED_LEAVES = {"yes": [3], "no": [4], "none": [5]}
NUMBERED_EXPRESSIONS = {"minus": 9, "not": 10, "?": 12, "element": 14}
NUMBERED_STATEMENTS = (
    "let", "set", "show", "table", "plot", "check", "do", "give", "if", "if else", "while", "for", "slider", "choice",
)


def numbered_bytes(found):
    return [len(found)] + list(found)


def numbered_list(rows):
    return sum(rows, [len(rows)])


def numbered_names(names):
    return numbered_list([numbered_bytes(to_bytes(name)) for name in names])


def numbered_leaf(token):
    if token.isdigit():
        return [1, int(token)]
    if token in SAYS:
        return [2] + numbered_bytes(SAYS[token])
    return NUMBERED_LEAVES.get(token) or [6] + numbered_bytes(to_bytes(token))


def numbered_expression(tree):
    kind = tree[0]
    if kind == "leaf":
        return numbered_leaf(tree[1])
    if kind == "field":
        return [15] + numbered_expression(tree[1]) + numbered_bytes(to_bytes(tree[2]))
    if kind == "fn":
        begun = [18] + numbered_bytes(to_bytes(tree[1])) if tree[1] else [17]
        return begun + numbered_names(tree[2]) + numbered_program(tree[3])
    if kind == "record":
        named = zip(tree[1], tree[2])
        return [8] + numbered_list([numbered_bytes(to_bytes(name)) + numbered_expression(part) for name, part in named])
    parts = [numbered_expression(part) for part in tree[1]]
    if kind in BETWEEN:
        return sum(parts, [11, list(BETWEEN).index(kind)])
    if kind in WORDS:
        return [16, list(WORDS).index(kind)] + numbered_list(parts)
    if kind == "list":
        return [7] + numbered_list(parts)
    if kind == "call":
        return [13] + parts[0] + numbered_list(parts[1:])
    return sum(parts, [NUMBERED_EXPRESSIONS[kind]])


def numbered_statement(tree):
    kind = tree[0]
    begun = [20 + NUMBERED_STATEMENTS.index(kind)]
    if kind in ("let", "set", "for", "slider", "choice"):
        begun += numbered_bytes(to_bytes(tree[1]))
    if kind == "slider":
        return begun + tree[2]
    if kind == "choice":
        return begun + [tree[2]] + numbered_list([numbered_bytes(SAYS[token]) for token in tree[3]])
    return sum([numbered_program(block) for block in tree[3]], begun + numbered_expression(tree[2]))


def numbered_program(statements):
    return numbered_list([numbered_statement(statement) for statement in statements])


def without_pair(text, opening):
    """The text without the round bracket at that place and the one that closes it."""
    deep = 0
    for place in range(opening, len(text)):
        deep += (text[place] == "(") - (text[place] == ")")
        if deep == 0:
            return f"{text[:opening]} {text[opening + 1:place]} {text[place + 1:]}"
    return text


def brackets_deep(text):
    deep = [0]
    for sign in text:
        deep.append(deep[-1] + (sign in "([{") - (sign in ")]}"))
    return max(deep)


class DrawnTrees(unittest.TestCase):
    def drawn(self, seed, size):
        dice = Dice(seed)
        for number in range(size):
            program = [draw_statement(dice, number % 7) for _ in range(1 + dice.below(3))]
            bracketed = "".join([BRACKETED.statement(tree) + dice.pick(("", " ", "#\n")) for tree in program])
            if len(bracketed) <= 600 and brackets_deep(bracketed) <= 24:
                yield program, bracketed

    def test_form_of_bracketed_texts(self):
        read = 0
        for program, bracketed in self.drawn(5, 3000):
            depth = max([depth_of(tree) for tree in program])
            self.assertLessEqual(depth, 40)
            self.assertEqual(fault_of(bracketed), [0], bracketed)
            form = "\n".join([FORM.statement(tree) for tree in program])
            self.assertEqual(form_of(bracketed), form, bracketed)
            if len(form) <= 600:
                self.assertEqual(form_of(form), form)
            read += 1
        self.assertGreater(read, 1000)

    def test_tree_of_bracketed_texts_and_of_their_forms(self):
        for program, bracketed in self.drawn(8, 3000):
            numbers = numbered_program(program)
            self.assertEqual(tree_of(bracketed), numbers, bracketed)
            form = form_of(bracketed)
            if len(form) <= 600:
                self.assertEqual(tree_of(form), numbers, form)

    def test_same_as_itself_and_its_form_and_not_as_another(self):
        before = None
        unlike = 0
        for program, bracketed in self.drawn(9, 1000):
            self.assertEqual(same_of(bracketed, bracketed), [1])
            form = form_of(bracketed)
            if len(form) <= 600:
                self.assertEqual((same_of(bracketed, form), same_of(form, bracketed)), ([1], [1]), bracketed)
            if before is not None:
                expected = [int(numbered_program(before[0]) == numbered_program(program))]
                unlike += expected == [0]
                self.assertEqual(same_of(bracketed, before[1]), expected)
                self.assertEqual(same_of(before[1], bracketed), expected)
            before = (program, bracketed)
        self.assertGreater(unlike, 300)

    def test_same_of_two_statements_that_are_small(self):
        dice = Dice(10)
        drawn = [draw_statement(dice, number % 2) for number in range(80)]
        alike = 0
        for tree in drawn:
            for other in drawn:
                # A statement without a name of its own is drawn with one all the same.
                expected = numbered_statement(tree) == numbered_statement(other)
                alike += expected
                self.assertEqual(same_of(BRACKETED.statement(tree), FORM.statement(other)), [int(expected)])
        self.assertGreater(alike, len(drawn))

    def test_places_of_drawn_programs(self):
        dice = Dice(11)
        told = 0
        for number in range(2000):
            text = dice.pick(("", " ", "# a;\n", "\n\n"))
            expected = []
            for _ in range(dice.below(5)):
                tree = draw_statement(dice, number % 6)
                written = dice.pick((BRACKETED, FORM)).statement(tree)
                expected.append((len(text), len(text) + len(written), depth_of(tree)))
                text += written + dice.pick(("", "", " ", "\n", " \n ", "# b;\n"))
            text += dice.pick(("", " ", "\n", "# c", "#", " #\n"))
            if len(text) <= 600 and brackets_deep(text) <= 24:
                self.assertEqual(places_of(text), expected, text)
                told += len(expected) > 1
        self.assertGreater(told, 500)

    def test_pieces_of_drawn_programs(self):
        for program, bracketed in self.drawn(12, 700):
            for k, tree in enumerate(program):
                self.assertEqual(piece_of(k, bracketed), FORM.statement(tree), bracketed)
            for k in (-1, len(program)):
                self.assertEqual(piece_of(k, bracketed), [-3], bracketed)

    def test_splices_of_drawn_programs(self):
        dice = Dice(14)
        before = ([], "")
        seen = {}
        for program, bracketed in self.drawn(13, 1200):
            k = dice.below(5) - 1
            n = dice.below(5) - 1
            spliced = program[:max(k, 0)] + before[0] + program[max(k, 0) + max(n, 0):]
            expected = "\n".join([FORM.statement(tree) for tree in spliced])
            if len(expected) > 600:
                expected = [-4]
            if k < 0 or n < 0 or k + n > len(program):
                expected = [-3]
            self.assertEqual(splice_of(k, n, bracketed, before[1]), expected, (k, n, bracketed, before[1]))
            outcome = expected[0] if isinstance(expected, list) else 0
            seen[outcome] = seen.get(outcome, 0) + 1
            before = (program, bracketed)
        self.assertEqual(sorted(seen), [-4, -3, 0])
        self.assertGreater(seen[0], 200)

    def test_weights_of_drawn_programs(self):
        for program, bracketed in self.drawn(15, 1500):
            within = sum([trees_within(tree) for tree in program], [])
            statements = len([tree for tree in within if tree[0] in NUMBERED_STATEMENTS])
            form = "\n".join([FORM.statement(tree) for tree in program])
            depth = max([depth_of(tree) for tree in program])
            weight = [depth, statements, len(within) - statements]
            self.assertEqual(weigh_of(bracketed), weight + [opening_brackets(bracketed), opening_brackets(form)], bracketed)
            if len(form) <= 600:
                self.assertEqual(weigh_of(form), weight + [opening_brackets(form)] * 2, form)

    def test_depth_of_chains(self):
        dice = Dice(6)
        for _ in range(300):
            tree = ("leaf", "a")
            text = "a"
            for _ in range(35 + dice.below(9)):
                other = draw_expression(dice, dice.below(2))
                sign = dice.pick(list(BETWEEN)) if brackets_deep(text) < 20 else "field"
                if sign == "field":
                    tree, text = ("field", tree, "x"), f"{text if tree[0] == 'field' else f'({text})'}.x"
                elif dice.below(3) > 0 and BETWEEN[sign][0] != 4 and tree[0] == sign:
                    tree, text = (sign, [tree, other]), f"{text} {sign} {with_all_brackets(BRACKETED, other, 0)}"
                else:
                    tree, text = (sign, [tree, other]), f"({text}) {sign} {with_all_brackets(BRACKETED, other, 0)}"
            text = f"do {text};"
            if len(text) <= 600 and brackets_deep(text) <= 24:
                depth = 1 + depth_of(tree)
                self.assertEqual(fault_of(text), [5, depth] if depth > 40 else [0], text)

    def test_no_brackets_of_a_form_can_be_left_out(self):
        for program, bracketed in self.drawn(7, 600):
            form = form_of(bracketed)
            if len(form) > 600 or '"' in form:
                continue
            for place in range(len(form)):
                if form[place] == "(":
                    self.assertNotEqual(form_of(without_pair(form, place)), form)


if __name__ == "__main__":
    unittest.main()
