"""The words of a text."""

from worldorpaper.errors import BadText

MARKS = ("(", ")", ",", ".", "=")
UNLIKE_MARK = "!="


def scan(text):
    """The words of a text in order, each with its line and column."""
    words = words_and_end(text)
    last, line, column = words[-1]
    if last != "":
        raise BadText(line, column)
    return words[:-1]


def words_and_end(text):
    """The words up to what ends them, which is the last triple.

    The end of the text has the word "" there, and a sign that is in no word stands for itself.
    Neither is a word, so a reader can refuse both where it would refuse a word.
    """
    words = []
    for number, line in enumerate(text.split("\n"), start=1):
        # Only the end of the last line is an end of the text.
        if len(words) > 0:
            words.pop()
        words.extend(line_words_and_end(line, number))
        if words[-1][0] != "":
            return words
    return words


def line_words_and_end(line, number):
    """The words of the line with this number, and what ends them, as in words_and_end."""
    words = []
    at = 0
    while at < len(line):
        length = _word_length(line, at)
        if length > 0:
            words.append((line[at:at + length], number, at + 1))
            at += length
        elif line[at] == " ":
            at += 1
        else:
            return words + [(line[at], number, at + 1)]
    return words + [("", number, len(line) + 1)]


def _word_length(line, at):
    """The length of the word that begins there, or 0."""
    if line[at] in MARKS:
        return 1
    if line[at:at + 2] == UNLIKE_MARK:
        return 2
    end = at
    while end < len(line) and line[end].isascii() and line[end].isalnum():
        end += 1
    return end - at
