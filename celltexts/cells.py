"""The calls on cell texts. Each gives back a list of whole numbers; a refusal is its number alone."""

from celltexts.faults import Fault
from celltexts.reading import read_good, read_tokens
from celltexts.telling import tell_bytes, tell_places, tell_statements, tell_tokens
from celltexts.trees import greatest_depth
from celltexts.weighing import count_opening, count_trees
from celltexts.writing import write_program, write_statement

LONGEST_TEXT = 600

GOOD = 0
THE_SAME = 1
NOT_THE_SAME = 0
TOO_LONG = -1
NOT_GOOD = -2
NO_SUCH_STATEMENTS = -3
LONG_FORM = -4


def is_too_long(text):
    return len(text) > LONGEST_TEXT


def fault(text):
    if is_too_long(text):
        return [TOO_LONG]
    try:
        read_good(text)
    except Fault as found:
        return [found.number, found.told]
    return [GOOD]


def form(text):
    if is_too_long(text):
        return [TOO_LONG]
    try:
        program = read_good(text)
    except Fault:
        return [NOT_GOOD]
    return tell_bytes(write_program(program))


# Reading goes no further than the tokens, so the faults behind them don't count here.
def tokens(text):
    if is_too_long(text):
        return [TOO_LONG]
    try:
        found = read_tokens(text)
    except Fault:
        return [NOT_GOOD]
    return [len(found)] + tell_tokens(found)


def tree(text):
    if is_too_long(text):
        return [TOO_LONG]
    try:
        program = read_good(text)
    except Fault:
        return [NOT_GOOD]
    told = tell_statements(program)
    return [len(told)] + told


# Two trees are the same if their numbers are, as a tree can be read back from its numbers.
def same(text_a, text_b):
    if is_too_long(text_a) or is_too_long(text_b):
        return [TOO_LONG]
    try:
        program_a = read_good(text_a)
        program_b = read_good(text_b)
    except Fault:
        return [NOT_GOOD]
    if tell_statements(program_a) == tell_statements(program_b):
        return [THE_SAME]
    return [NOT_THE_SAME]


def places(text):
    if is_too_long(text):
        return [TOO_LONG]
    try:
        program = read_good(text)
    except Fault:
        return [NOT_GOOD]
    return [len(program)] + tell_places(program)


def piece(k, text):
    if is_too_long(text):
        return [TOO_LONG]
    try:
        program = read_good(text)
    except Fault:
        return [NOT_GOOD]
    if not 0 <= k < len(program):
        return [NO_SUCH_STATEMENTS]
    return tell_bytes(write_statement(program[k]))


def splice(k, n, text_a, text_b):
    if is_too_long(text_a) or is_too_long(text_b):
        return [TOO_LONG]
    try:
        program_a = read_good(text_a)
        program_b = read_good(text_b)
    except Fault:
        return [NOT_GOOD]
    if k < 0 or n < 0 or k + n > len(program_a):
        return [NO_SUCH_STATEMENTS]
    written = write_program(program_a[:k] + program_b + program_a[k + n:])
    if is_too_long(written):
        return [LONG_FORM]
    return tell_bytes(written)


# The form's tokens are those of its bytes, however many: a bracket inside a quoted text is none of them.
def weigh(text):
    if is_too_long(text):
        return [TOO_LONG]
    try:
        program = read_good(text)
    except Fault:
        return [NOT_GOOD]
    in_text = count_opening(read_tokens(text))
    in_form = count_opening(read_tokens(write_program(program)))
    return [greatest_depth(program)] + count_trees(program) + [in_text, in_form]
