"""A text, read into its program's tree, or the first of its faults."""

from celltexts.faults import DEEP_BRACKET, DEEP_PROGRAM, Fault
from celltexts.grammar import read_program
from celltexts.scanning import CLOSING, OPENING, check_bytes, cut_tokens, end_token
from celltexts.trees import greatest_depth

DEEPEST_BRACKET = 24
DEEPEST_PROGRAM = 40


# The checks stand in the order of the faults' numbers: the first fault is the one that's told.
def read_good(text):
    tokens = read_tokens(text)
    check_brackets(tokens)
    program = read_program(tokens + [end_token(text)])
    check_depth(program)
    return program


def read_tokens(text):
    check_bytes(text)
    return cut_tokens(text)


# Closing brackets count even where none is open: whether they fit is for the grammar to say.
def check_brackets(tokens):
    deep = 0
    for token in tokens:
        if token.kind in OPENING:
            deep += 1
            if deep > DEEPEST_BRACKET:
                raise Fault(DEEP_BRACKET, token.place)
        elif token.kind in CLOSING:
            deep -= 1


def check_depth(program):
    depth = greatest_depth(program)
    if depth > DEEPEST_PROGRAM:
        raise Fault(DEEP_PROGRAM, depth)
