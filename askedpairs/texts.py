"""Webs as texts, told and read."""

from askedpairs.errors import NoText
from askedpairs.lines import fraction_word, number_of, row_line
from askedpairs.webs import is_web


def told(web):
    """Tell a web's text."""
    things, ties, patience, asks = web
    rows = [("things", things, "asks", asks)]
    rows.extend([("thing", part) for part in patience])
    rows.extend([("tie", one, other, fraction_word(chance), worth) for one, other, chance, worth in ties])
    return "".join([row_line(row) + "\n" for row in rows])


def numbers_in(text):
    """Tell the numbers of a text, wherever they stand in it as words."""
    words = text.replace("\n", " ").replace("/", " ").split(" ")
    numbers = [number_of(word) for word in words]
    return [number for number in numbers if number is not None]


def web_by(numbers):
    """Tell what would be the web of a text with these numbers, at least two."""
    things, asks = numbers[:2]
    rest = numbers[2 + things:]
    ties = [(rest[at], rest[at + 1], (rest[at + 2], rest[at + 3]), rest[at + 4]) for at in range(0, len(rest) - 4, 5)]
    return (things, tuple(ties), tuple(numbers[2:2 + things]), asks)


def read(thing):
    """Tell the web of a text; anything else than a web's text is refused."""
    numbers = numbers_in(thing) if isinstance(thing, str) else []
    if len(numbers) < 2:
        raise NoText("this is no web's text")
    web = web_by(numbers)
    # The words between the numbers weren't looked at: only the text told of that web is right.
    if not is_web(web) or told(web) != thing:
        raise NoText("this is no web's text")
    return web
