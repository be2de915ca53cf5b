"""Rows written as texts, and read from them [7]."""

from freshrooms.errors import NoText
from freshrooms.rows import is_sign

FIGURES = "0123456789"
MOST_FIGURES = 60
MOST_SIGNS = 60
EMPTY_ROW = "-"


def show_row(row):
    if len(row) == 0:
        return EMPTY_ROW
    return " ".join([f"{sign}:{name}" for sign, name in row])


def read_row(text):
    if text == EMPTY_ROW:
        return []
    parts = text.split(" ")
    if len(parts) > MOST_SIGNS:
        raise NoText("a row has at most sixty signs")
    return [read_part(part) for part in parts]


def read_part(part):
    cut = part.partition(":")
    if not is_sign(cut[0]) or not is_name_text(cut[2]):
        raise NoText("a row is SIGN:NAME, parted by single blanks, or - alone")
    return (cut[0], int(cut[2]))


def is_name_text(text):
    if text == "-0":
        return False
    figures = text[1:] if text.startswith("-") else text
    return is_number_text(figures) and len(figures) <= MOST_FIGURES


def is_number_text(text):
    # Looked at figure by figure: int would take blanks, signs, underscores and noughts ahead, too.
    if text == "" or not all([figure in FIGURES for figure in text]):
        return False
    return text == "0" or not text.startswith("0")
