"""Texts line by line: how far in a line is, its words, and where the first line stands that cannot."""

from meettasks.basics import is_word
from meettasks.errors import BadText

INWARD = 2
FURTHER = 4
FIGURES = "0123456789"


def as_number(word):
    """The number that figures without noughts ahead tell, None of any other word."""
    if not word or not all([sign in FIGURES for sign in word]) or word[0] == "0" and word != "0":
        return None
    return int(word)


def as_truth(word):
    """What "yes" or "no" tells, None of any other word."""
    return {"yes": True, "no": False}.get(word)


def told_truth(truth):
    return "yes" if truth else "no"


def line_of(indent, words):
    return " " * indent + " ".join(words) + "\n"


class Reader:
    """The lines of a text that have not been read; one without its line feed is none that can be read."""

    def __init__(self, text):
        if not isinstance(text, str):
            raise BadText(0)
        self.lines = text.split("\n")
        self.left = self.lines.pop()
        self.at = 0

    def words_at(self, indent):
        """The words of the next line if it is so far in, else an empty list."""
        if self.at == len(self.lines):
            return []
        line = self.lines[self.at]
        words = line[indent:].split(" ")
        return words if line[:indent] == " " * indent and words[0] != "" else []

    def is_at(self, indent, word):
        """Whether the next line is so far in and begins with a word."""
        return self.words_at(indent)[:1] == [word]

    def check(self, is_right):
        """BadText with the next line if it is not right."""
        if not is_right:
            raise BadText(self.at)

    def told_words(self, indent, word, many):
        """What stands behind a word in the next line, which begins with it: so many words, any number of None."""
        words = self.words_at(indent)
        self.check(words[:1] == [word] and all([is_word(one) for one in words[1:]]))
        self.check(many is None or len(words) == many + 1)
        return words[1:]

    def go_on(self):
        self.at += 1

    def check_end(self):
        self.check(self.at == len(self.lines) and self.left == "")
