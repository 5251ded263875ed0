"""What the tests share: texts as lists of bytes, and numbers that look shuffled but are the same in every run."""

from celltexts import cells


def to_bytes(text):
    return [ord(sign) for sign in text]


def fault_of(text):
    return cells.fault(to_bytes(text))


def form_of(text):
    """The form as a text, or the refusal's list."""
    answer = cells.form(to_bytes(text))
    if answer[0] < 0:
        return answer
    if answer[0] != len(answer) - 1:
        raise AssertionError("the first number is not how many follow")
    return "".join([chr(byte) for byte in answer[1:]])


class Dice:
    def __init__(self, seed):
        self.state = seed

    def below(self, size):
        self.state = (self.state * 6364136223846793005 + 1442695040888963407) % 2 ** 64
        return (self.state >> 33) % size

    def pick(self, choices):
        return choices[self.below(len(choices))]


class Untouchable(list):
    """A list that can't be changed, not for a while either."""

    def refuse(self, *args, **kwargs):
        raise AssertionError("what was handed in is changed")

    append = clear = extend = insert = pop = remove = reverse = sort = refuse
    __setitem__ = __delitem__ = __iadd__ = __imul__ = refuse
