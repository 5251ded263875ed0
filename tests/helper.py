"""What the tests share: texts as lists of bytes, answers taken apart, texts with faults, numbers that look shuffled but
are the same in every run, and what is asked of every call."""

from celltexts import cells

# Of each fault's number, texts that have it.
FAULTY = (
    (1, ("\t", "show 1;\r\n", '"a\tb"', "show 1; # \x7f", "\xff")),
    (2, ("$", "show 1; 00", 'show "a', "show " + "x" * 17 + ";", "show " + "9" * 31 + ";", 'show "\\t";', "show !a;")),
    (3, ("(" * 25, "show " + "(" * 25 + "1" + ")" * 25 + ";", "if a {" * 25 + "}" * 25)),
    (4, ("show 1", "show 1 + ;", "show (1", "show 1 < 2 < 3;", "show - -1;", "let len = 1;", "1;", "}", "show 1;;")),
    (5, ("do 1" + "+1" * 39 + ";", "do a" + ".b" * 200 + ";", "show 1; do a" + "()" * 39 + ";")),
)


def to_bytes(text):
    return [ord(sign) for sign in text]


def fault_of(text):
    return cells.fault(to_bytes(text))


def form_of(text):
    """The form as a text, or the refusal's list."""
    return to_text(cells.form(to_bytes(text)))


def piece_of(k, text):
    """The statement's form as a text, or the refusal's list."""
    return to_text(cells.piece(k, to_bytes(text)))


def splice_of(k, n, text_a, text_b):
    """The form as a text, or the refusal's list."""
    return to_text(cells.splice(k, n, to_bytes(text_a), to_bytes(text_b)))


def tokens_of(text):
    """The tokens as (kind, place, size), or the refusal's list."""
    return in_threes(cells.tokens(to_bytes(text)))


def tree_of(text):
    """The tree's numbers, or the refusal's list."""
    answer = cells.tree(to_bytes(text))
    return answer if is_refusal(answer) else counted(answer)


def same_of(text_a, text_b):
    return cells.same(to_bytes(text_a), to_bytes(text_b))


def places_of(text):
    """The statements as (place, place behind, depth), or the refusal's list."""
    return in_threes(cells.places(to_bytes(text)))


def weigh_of(text):
    return cells.weigh(to_bytes(text))


def is_refusal(answer):
    return len(answer) == 1 and answer[0] < 0


def counted(answer):
    if answer[0] != len(answer) - 1:
        raise AssertionError("the first number is not how many follow")
    return answer[1:]


def to_text(answer):
    return answer if is_refusal(answer) else "".join([chr(byte) for byte in counted(answer)])


def in_threes(answer):
    if is_refusal(answer):
        return answer
    if answer[0] * 3 != len(answer) - 1:
        raise AssertionError("the first number is not how many threes follow")
    return [tuple(answer[at:at + 3]) for at in range(1, len(answer), 3)]


class Dice:
    def __init__(self, seed):
        self.state = seed

    def below(self, size):
        self.state = (self.state * 6364136223846793005 + 1442695040888963407) % 2 ** 64
        return (self.state >> 33) % size

    def pick(self, choices):
        return choices[self.below(len(choices))]


class Untouchable(list):
    """A list that can't be changed, not for a while either."""

    def refuse(self, *args, **kwargs):
        raise AssertionError("what was handed in is changed")

    append = clear = extend = insert = pop = remove = reverse = sort = refuse
    __setitem__ = __delitem__ = __iadd__ = __imul__ = refuse


def to_handed(values, kind=list):
    """Texts as lists of that kind, whole numbers as they are."""
    return [kind(to_bytes(value)) if isinstance(value, str) else value for value in values]


class HandedInCases:
    """For a test case with `call`, a function of the program, and `handed`, tuples of texts and numbers to hand in."""

    def test_it_is_as_it_was_and_never_changed(self):
        for values in self.handed:
            handed = to_handed(values, Untouchable)
            self.call(*handed)
            self.assertEqual(handed, to_handed(values))

    def test_called_twice_the_answer_is_the_same(self):
        for values in self.handed:
            handed = to_handed(values)
            first = self.call(*handed)
            kept = list(first)
            first.append(7)
            first[0] = 8
            self.assertEqual(self.call(*handed), kept)

    def test_what_was_called_before_does_not_count(self):
        alone = [self.call(*to_handed(values)) for values in self.handed]
        backwards = [self.call(*to_handed(values)) for values in self.handed[::-1]]
        self.assertEqual(backwards[::-1], alone)

    def test_whole_numbers_in_a_list(self):
        for values in self.handed:
            answer = self.call(*to_handed(values))
            self.assertIs(type(answer), list)
            self.assertEqual({type(number) for number in answer}, {int})
