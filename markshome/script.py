"""The rows of a script: a text of words and the tuple of the words."""

from markshome.checks import is_number
from markshome.errors import Unlike
from markshome.names import MOST_TREES, is_name
from markshome.nettext import check_row, word_at

# What stands behind the first word: names, numbers of trees, and numbers of broken lines.
FORMS = {
    "net": ("name", "name"), "house": ("name", "name"), "line": ("name", "name", "name", "name"),
    "cut": ("name", "name"), "build": ("name", "count"), "break": ("name", "name"), "mend": ("name", "name"),
    "send": ("name", "name"), "each": ("name",), "worst": ("name", "most"),
}
MOST_BROKEN = 3


def greatest(form):
    """The greatest number of this form."""
    return MOST_TREES if form == "count" else MOST_BROKEN


def word_right(form, word):
    """True if the word of a text has the form."""
    if form == "name":
        return is_name(word)
    return word in [str(number) for number in range(greatest(form) + 1)]


def row_right(words):
    """Which words of a row are right."""
    if words[0] not in FORMS:
        return [False]
    forms = FORMS[words[0]]
    return [True] + [word_right(form, word_at(words, index)) for index, form in enumerate(forms, start=1)]


def read_row(text):
    """The tuple of the words of a row, with numbers as integers. Raises BadText for the first fault."""
    words = text.split(" ")
    check_row(1, words, row_right(words))
    forms = FORMS[words[0]]
    return tuple(words[:1] + [word if form == "name" else int(word) for form, word in zip(forms, words[1:])])


def value_right(form, value):
    """True if the value of a tuple has the form."""
    if form == "name":
        return is_name(value)
    return is_number(value) and 0 <= value <= greatest(form)


def is_row(words):
    """True if the tuple of texts and integers is that of a row."""
    if words == () or words[0] not in FORMS:
        return False
    forms = FORMS[words[0]]
    if len(words) != 1 + len(forms):
        return False
    return all([value_right(form, value) for form, value in zip(forms, words[1:])])


def write_row(words):
    """The text of the tuple of the words of a row."""
    if not is_row(words):
        raise Unlike("row")
    return " ".join([str(word) for word in words])
