"""Going along the tokens of a text, and what is written alike in many places."""

from lotprograms.faults import Fault
from lotprograms.kinds import FLAG, bounded_num
from lotprograms.tokens import END, NUMBER, is_name


class Reader:
    """Tokens, taken one by one from the left; the text's end is seen, but never taken."""

    def __init__(self, tokens):
        self.tokens = tokens
        self.taken = 0

    def ahead(self):
        return self.tokens[self.taken]

    def take(self):
        token = self.ahead()
        self.taken += 1
        return token

    def sees(self, word):
        return self.ahead().word == word

    def passes(self, word):
        """Whether this word or sign stands there; if so, it is taken."""
        if not self.sees(word):
            return False
        self.take()
        return True

    def need(self, word):
        if not self.sees(word):
            raise Fault(3, self.ahead().place)
        return self.take()

    def need_name(self):
        if not is_name(self.ahead()):
            raise Fault(3, self.ahead().place)
        return self.take()

    def need_number(self):
        if self.ahead().form != NUMBER:
            raise Fault(3, self.ahead().place)
        return self.take()

    def need_end(self):
        if self.ahead().form != END:
            raise Fault(3, self.ahead().place)


def read_kind(reader):
    if reader.passes("flag"):
        return FLAG
    reader.need("num")
    low = reader.need_number()
    high = reader.need_number()
    return bounded_num(low, high)


def read_fraction(reader):
    """A fraction as what's above and what's below, in lowest terms."""
    above = reader.need_number().number
    if not reader.passes("/"):
        return (above, 1)
    below = reader.need_number()
    if below.number < 1:
        raise Fault(7, below.place)
    return lowest_terms(above, below.number)


def lowest_terms(above, below):
    divisor = below
    rest = abs(above)
    while rest > 0:
        remainder = divisor % rest
        divisor = rest
        rest = remainder
    return (above // divisor, below // divisor)


def read_weight(reader):
    """A fraction that's not below 0."""
    place = reader.ahead().place
    weight = read_fraction(reader)
    if weight[0] < 0:
        raise Fault(7, place)
    return weight


def read_share(reader):
    """A fraction from 0 to 1."""
    place = reader.ahead().place
    share = read_fraction(reader)
    if share[0] < 0 or share[0] > share[1]:
        raise Fault(7, place)
    return share
