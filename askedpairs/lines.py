"""Words of lines: numbers and fractions, told and read."""

MOST_FIGURES = 4


def number_of(word):
    """Tell the number that a word tells, decimal and without noughts ahead, or None."""
    # No number that is read anywhere has more figures, and Python refuses to read far longer ones.
    if not word.isdecimal() or len(word) > MOST_FIGURES:
        return None
    number = int(word)
    return number if str(number) == word else None


def fraction_word(fraction):
    """Tell the word for a fraction."""
    top, bottom = fraction
    return f"{top}/{bottom}"


def row_line(row):
    """Tell the line of a row of numbers and texts, with one blank between."""
    return " ".join([str(part) for part in row])
