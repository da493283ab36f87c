"""Texts and their tokens."""

from lotprograms.faults import Fault

LONGEST_TEXT = 4096
LONGEST_WORD = 16
GREATEST_NUMBER = 1000000000
MOST_DIGITS = 10

BLANKS = (32, 9, 10)
ROW_END = 10
HASH = 35
MINUS = 45
GREATER = 62
ZERO = 48
GREAT_A = 65
SMALL_A = 97

DIGITS = "0123456789"
GREAT_LETTERS = "ABCDEFGHIJKLMNOPQRSTUVWXYZ"
SMALL_LETTERS = "abcdefghijklmnopqrstuvwxyz"

ONE_BYTE_SIGNS = {
    61: "=", 123: "{", 125: "}", 40: "(", 41: ")", 91: "[", 93: "]",
    44: ",", 59: ";", 58: ":", 47: "/", 124: "|",
}

RESERVED = (
    "chance", "budget", "def", "let", "observe", "tell", "table", "net", "flag", "num",
    "if", "flip", "pick", "uniform", "given", "weigh", "true", "false",
)

WORD = "word"
NUMBER = "number"
SIGN = "sign"
END = "end"


class Token:
    """A token: its form, what it says, its place, and the place right behind it.

    A number says its number and has an empty word; a word or a sign says its word.
    """

    def __init__(self, form, word, number, place, behind):
        self.form = form
        self.word = word
        self.number = number
        self.place = place
        self.behind = behind


def is_name(token):
    return token.form == WORD and token.word not in RESERVED


def is_digit(byte):
    return ZERO <= byte and byte < ZERO + len(DIGITS)


def is_great_letter(byte):
    return GREAT_A <= byte and byte < GREAT_A + len(GREAT_LETTERS)


def is_small_letter(byte):
    return SMALL_A <= byte and byte < SMALL_A + len(SMALL_LETTERS)


def is_letter(byte):
    return is_great_letter(byte) or is_small_letter(byte)


def sign_of_byte(byte):
    """The letter or digit that a byte stands for."""
    if is_digit(byte):
        return DIGITS[byte - ZERO]
    if is_great_letter(byte):
        return GREAT_LETTERS[byte - GREAT_A]
    return SMALL_LETTERS[byte - SMALL_A]


def tokens_of(text):
    """All tokens of a text, and behind them one that stands for its end."""
    if len(text) > LONGEST_TEXT:
        raise Fault(1, LONGEST_TEXT)
    tokens = []
    place = behind_blanks(text, 0)
    while place < len(text):
        token = token_at(text, place)
        tokens.append(token)
        place = behind_blanks(text, token.behind)
    tokens.append(Token(END, "", 0, len(text), len(text)))
    return tokens


def behind_blanks(text, start):
    place = start
    while place < len(text) and (text[place] in BLANKS or text[place] == HASH):
        if text[place] == HASH:
            place = row_end(text, place)
        else:
            place += 1
    return place


def row_end(text, start):
    place = start
    while place < len(text) and text[place] != ROW_END:
        place += 1
    return place


def token_at(text, place):
    byte = text[place]
    if is_letter(byte):
        return word_at(text, place)
    if is_digit(byte):
        return number_at(text, place, place)
    if byte == MINUS:
        return minus_at(text, place)
    if byte in ONE_BYTE_SIGNS:
        return Token(SIGN, ONE_BYTE_SIGNS[byte], 0, place, place + 1)
    raise Fault(2, place)


def word_at(text, place):
    behind = place
    while behind < len(text) and (is_letter(text[behind]) or is_digit(text[behind])):
        behind += 1
    if behind - place > LONGEST_WORD:
        raise Fault(2, place)
    word = "".join([sign_of_byte(byte) for byte in text[place:behind]])
    return Token(WORD, word, 0, place, behind)


def minus_at(text, place):
    follower = place + 1
    if follower < len(text) and text[follower] == GREATER:
        return Token(SIGN, "->", 0, place, follower + 1)
    if follower < len(text) and is_digit(text[follower]):
        return number_at(text, place, follower)
    raise Fault(2, place)


def number_at(text, place, first):
    """The number that begins at a place; its first digit stands there, or behind a -."""
    behind = first
    while behind < len(text) and is_digit(text[behind]):
        behind += 1
    negative = first > place
    count = behind - first
    if text[first] == ZERO and (negative or count > 1):
        raise Fault(2, place)
    # A number of more digits is too great; it isn't reckoned, as it may be thousands of digits long.
    if count > MOST_DIGITS:
        raise Fault(2, place)
    size = 0
    for byte in text[first:behind]:
        size = size * 10 + byte - ZERO
    if size > GREATEST_NUMBER:
        raise Fault(2, place)
    return Token(NUMBER, "", -size if negative else size, place, behind)
