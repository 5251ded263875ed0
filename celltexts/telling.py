"""Tokens, trees and the places of statements, told as numbers.

The functions call one another as trees stand within one another, so only trees of good texts are told.
"""

from celltexts.scanning import RESERVED

TOKEN_NUMBERS = {"NAME": 1, "NUMBER": 3, "QUOTED": 4}
RESERVED_WORD = 2
SIGN = 5

BETWEEN_TWO = 11
SIGN_NUMBERS = {
    "or": 0, "and": 1, "==": 2, "!=": 3, "<": 4, "<=": 5, ">": 6, ">=": 7, "++": 8, "+": 9, "-": 10, "*": 11,
    "/": 12, "percent": 13,
}

BUILT_IN_WORD = 16
WORD_NUMBERS = {"len": 0, "keys": 1, "text": 2, "num": 3, "roll": 4, "cut": 5, "with": 6}

NAMELESS_FUNCTION = 17
NAMED_FUNCTION = 18

OTHER_EXPRESSIONS = {
    "NUMBER": 1, "QUOTED": 2, "yes": 3, "no": 4, "none": 5, "NAME": 6, "list": 7, "record": 8, "minus": 9, "not": 10,
    "?": 12, "call": 13, "element": 14, "field": 15,
}

IF_WITH_ELSE = 29
OTHER_STATEMENTS = {
    "let": 20, "set": 21, "show": 22, "table": 23, "plot": 24, "check": 25, "do": 26, "give": 27, "if": 28,
    "while": 30, "for": 31, "slider": 32, "choice": 33,
}


def tell_tokens(tokens):
    told = []
    for token in tokens:
        told.extend([tell_kind(token.kind), token.place, token.end - token.place])
    return told


def tell_kind(kind):
    if kind in RESERVED:
        return RESERVED_WORD
    return TOKEN_NUMBERS.get(kind, SIGN)


def tell_places(statements):
    told = []
    for statement in statements:
        told.extend([statement.place, statement.end, statement.depth])
    return told


def put_together(pieces):
    told = []
    for piece in pieces:
        told.extend(piece)
    return told


def tell_list(pieces):
    return [len(pieces)] + put_together(pieces)


# Names, what quoted texts say, and forms.
def tell_bytes(said):
    return [len(said)] + said


def tell_bytes_list(texts):
    return tell_list([tell_bytes(said) for said in texts])


# A program's statements, or a block's.
def tell_statements(statements):
    return tell_list([tell_statement(statement) for statement in statements])


def tell_statement(tree):
    kind = tree.kind
    told = [statement_number(tree)]
    if kind == "slider":
        return told + tell_bytes(tree.leaves[0]) + tree.leaves[1:]
    if kind == "choice":
        return told + tell_bytes(tree.leaves[0]) + [tree.leaves[1]] + tell_bytes_list(tree.leaves[2:])
    if kind in ("let", "set", "for"):
        told.extend(tell_bytes(tree.leaves[0]))
    told.extend(tell_expression(tree.parts[0]))
    return told + put_together([tell_statements(block) for block in tree.blocks])


def statement_number(tree):
    if tree.kind == "if" and len(tree.blocks) == 2:
        return IF_WITH_ELSE
    return OTHER_STATEMENTS[tree.kind]


def tell_expression(tree):
    kind = tree.kind
    if kind in SIGN_NUMBERS:
        return [BETWEEN_TWO, SIGN_NUMBERS[kind]] + tell_parts(tree.parts)
    if kind in WORD_NUMBERS:
        return [BUILT_IN_WORD, WORD_NUMBERS[kind]] + tell_listed(tree.parts)
    if kind == "fn":
        return tell_function(tree)
    return [OTHER_EXPRESSIONS[kind]] + tell_inside(tree)


def tell_parts(parts):
    return put_together([tell_expression(part) for part in parts])


def tell_listed(parts):
    return [len(parts)] + tell_parts(parts)


def tell_inside(tree):
    kind = tree.kind
    if kind == "NUMBER":
        return [tree.leaves[0]]
    if kind in ("QUOTED", "NAME"):
        return tell_bytes(tree.leaves[0])
    if kind == "list":
        return tell_listed(tree.parts)
    if kind == "record":
        return tell_fields(tree)
    if kind == "call":
        return tell_expression(tree.parts[0]) + tell_listed(tree.parts[1:])
    if kind == "field":
        return tell_expression(tree.parts[0]) + tell_bytes(tree.leaves[0])
    return tell_parts(tree.parts)


def tell_fields(tree):
    fields = []
    for name, part in zip(tree.leaves, tree.parts):
        fields.append(tell_bytes(name) + tell_expression(part))
    return tell_list(fields)


def tell_function(tree):
    name = tree.leaves[0]
    inside = tell_bytes_list(tree.leaves[1:]) + tell_statements(tree.blocks[0])
    if len(name) == 0:
        return [NAMELESS_FUNCTION] + inside
    return [NAMED_FUNCTION] + tell_bytes(name) + inside
