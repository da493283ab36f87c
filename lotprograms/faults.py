"""What can be wrong with a text."""


class Fault(Exception):
    """A text is no program: a code from 1 to 14, and the place where it shows."""

    def __init__(self, code, place):
        self.code = code
        self.place = place
