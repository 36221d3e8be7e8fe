"""Cuts a text into tokens."""

LETTERS = "abcdefghijklmnopqrstuvwxyz"
DIGITS = "0123456789"
BLANKS = " \n"
SIGNS = "|+-&"
MARKS = "(){}[],:=."
LONGEST_WORD = 8
LONGEST_NUMBER = 30
RESERVED = (
    "add", "and", "cut", "def", "drop", "else", "has", "if", "in", "is",
    "let", "not", "only", "put", "record", "rename", "then", "to",
)


class Token:
    """A token with its position.

    Its kind is NAME, NUMBER, SIGN, WRONG for what stands in no program, END behind the text, and
    for reserved words and other characters the token itself.
    """

    def __init__(self, kind, word, at):
        self.kind = kind
        self.word = word
        self.at = at


def cut_text(text):
    """The list of the tokens of a text; the last one is the END."""
    found = []
    at = 0
    while at < len(text):
        if text[at] in BLANKS:
            at += 1
        else:
            stop = token_end(text, at)
            word = text[at:stop]
            found.append(Token(token_kind(word), word, at))
            at = stop
    found.append(Token("END", "", len(text)))
    return found


def token_end(text, at):
    """The position behind the token that begins here."""
    alphabet = ""
    if text[at] in LETTERS:
        alphabet = LETTERS
    elif text[at] in DIGITS:
        alphabet = DIGITS
    stop = at + 1
    while stop < len(text) and text[stop] in alphabet:
        stop += 1
    return stop


def token_kind(word):
    """The kind of a token."""
    if word[0] in LETTERS:
        return word_kind(word)
    if word[0] in DIGITS:
        plain = word == "0" or word[0] != "0"
        return "NUMBER" if plain and len(word) <= LONGEST_NUMBER else "WRONG"
    if word in SIGNS:
        return "SIGN"
    return word if word in MARKS else "WRONG"


def word_kind(word):
    """The kind of a token of letters."""
    if word in RESERVED:
        return word
    return "NAME" if len(word) <= LONGEST_WORD else "WRONG"
