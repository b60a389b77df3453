"""Words: numbers, levels and tables as a desk is told them and writes them."""

from trudge.errors import NoText

FIGURES = "0123456789"
MOST_FIGURES = 60
NONE = "-"


def are_figures(word):
    # Asked sign by sign: Python knows other figures than these ten, too.
    if not 1 <= len(word) <= MOST_FIGURES or not all([sign in FIGURES for sign in word]):
        return False
    return word == "0" or word[0] != "0"


def is_number(word):
    if word.startswith("-"):
        return are_figures(word[1:]) and word != "-0"
    return are_figures(word)


def number_by(word):
    if not is_number(word):
        raise NoText("a word is no number")
    return int(word)


def level_by(word):
    return None if word == NONE else number_by(word)


def written(level):
    return NONE if level is None else str(level)


def row_of(words):
    return " ".join(words)


def table_row(table):
    return row_of([written(level) for level in table])


def moved_row(moved):
    fell = [str(place) for place in moved[0]]
    rose = [str(place) for place in moved[1]]
    return row_of(["fell"] + fell + ["rose"] + rose)


def way_word(way):
    label = way[0]
    start = way[1]
    end = way[2]
    change = way[3]
    return f"{label}:{start}>{end}:{change}"
