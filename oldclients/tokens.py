"""The tokens of a text, and what single ones can be (point 73)."""

from oldclients.errors import NoText
from oldclients.forms import CAPITAL, SIGNS, SMALL, has_name_signs

BETWEEN = " \n"
FIGURES = "0123456789"
MOST_FIGURES = 20


def tokens_of(text):
    """Return the list of the tokens of a text: runs of letters and figures, and all other signs one by one."""
    tokens, begin = [], 0
    for at, sign in enumerate(text):
        if sign not in SIGNS:
            if begin < at:
                tokens.append(text[begin:at])
            if sign not in BETWEEN:
                tokens.append(sign)
            begin = at + 1
    if begin < len(text):
        tokens.append(text[begin:])
    return tokens


def is_any_name(token):
    """Tell whether a token can stand for a name."""
    return has_name_signs(token) and token[0] in SMALL + CAPITAL


def are_figures(token):
    """Tell whether a token can be the figures of an integer."""
    if not 1 <= len(token) <= MOST_FIGURES or not all([sign in FIGURES for sign in token]):
        return False
    return token == "0" or token[0] != "0"


class Reader:
    """Goes through the tokens of a text; each method raises NoText at a token that cannot stand where it is.

    Behind the last token the one that is here is empty, and cannot stand anywhere.
    """

    def __init__(self, text):
        if not isinstance(text, str):
            raise NoText(-1)
        self.tokens = tokens_of(text)
        self.at = 0

    def here(self):
        """Return the next token."""
        return self.tokens[self.at] if self.at < len(self.tokens) else ""

    def take(self, is_right):
        """Return the next token, which must be right, and go on behind it."""
        if not is_right:
            raise NoText(self.at)
        self.at += 1
        return self.tokens[self.at - 1]

    def expect(self, token):
        """Go on behind a token that must stand here."""
        self.take(self.here() == token)

    def skip(self, token):
        """Go on behind a token if it stands here, and return whether it did."""
        is_here = self.here() == token
        if is_here:
            self.at += 1
        return is_here

    def one_of(self, words):
        """Return the next token, which must be one of some words."""
        return self.take(self.here() in words)

    def read_name(self):
        """Return the name that stands here."""
        return self.take(is_any_name(self.here()))

    def read_integer(self):
        """Return the integer that stands here."""
        is_below = self.skip("-")
        figures = self.take(are_figures(self.here()) and not (is_below and self.here() == "0"))
        return -int(figures) if is_below else int(figures)

    def read_operand(self):
        """Return the operand that stands here: a variable, an integer, or None."""
        if self.skip("*"):
            return None
        if self.here() == "-" or are_figures(self.here()):
            return self.read_integer()
        return self.read_name()

    def finish(self):
        """Make sure that nothing stands here any more."""
        if self.at < len(self.tokens):
            raise NoText(self.at)
