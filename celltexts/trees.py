"""Trees of expressions and statements, and how strongly each kind of expression holds together.

A tree's kind is the word or sign that makes it (let, if, len, +, ?), or one of NUMBER, QUOTED, NAME, list, record,
minus, call, element, field. The sign with the byte 37 goes by the kind percent, as that sign can't stand in a text.
"""

# Of what stands between two parts: its strength, the strength wanted on its left, the strength wanted on its right.
SIDES = {
    "or": (1, 1, 2),
    "and": (2, 2, 3),
    "==": (4, 5, 5),
    "!=": (4, 5, 5),
    "<": (4, 5, 5),
    "<=": (4, 5, 5),
    ">": (4, 5, 5),
    ">=": (4, 5, 5),
    "++": (5, 5, 6),
    "+": (6, 6, 7),
    "-": (6, 6, 7),
    "*": (7, 7, 8),
    "/": (7, 7, 8),
    "percent": (7, 7, 8),
}

OTHER_STRENGTHS = {"?": 0, "not": 3, "minus": 8, "call": 9, "element": 9, "field": 9}
GREATEST_STRENGTH = 10


def strength_of(kind):
    if kind in SIDES:
        return SIDES[kind][0]
    return OTHER_STRENGTHS.get(kind, GREATEST_STRENGTH)


def greatest_depth(trees):
    return max([tree.depth for tree in trees], default=0)


class Tree:
    # leaves: the names, whole numbers and said bytes that belong to this tree itself, in the order written.
    # parts: its expressions; blocks: its lists of statements.
    # place, end: of a statement, the place of its first token and the place behind its last, set when it's read whole.
    # The depth is told here, part by part from the bottom, since a tree may be too deep to be gone through by calls.
    def __init__(self, kind, leaves, parts, blocks):
        self.kind = kind
        self.leaves = leaves
        self.parts = parts
        self.blocks = blocks
        self.place = None
        self.end = None
        below = [greatest_depth(block) for block in blocks]
        below.append(greatest_depth(parts))
        self.depth = 1 + max(below)
