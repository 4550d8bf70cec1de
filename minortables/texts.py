"""Texts of tables, and tables read from them."""

from minortables.checks import need_table
from minortables.errors import NoText
from minortables.tables import MOST_NUMBER, is_table


def number_text(number):
    # Python's own writing ends at some thousand digits, so a far number is written piece by piece.
    if number < 0:
        return "-" + number_text(-number)
    far = 10 ** 64
    pieces = []
    while number >= far:
        pieces.append(str(number % far).zfill(64))
        number = number // far
    pieces.append(str(number))
    return "".join(reversed(pieces))


def row_text(row):
    return " ".join([number_text(number) for number in row]) + "\n"


def table_text(table):
    need_table(table)
    return "".join([row_text(row) for row in table])


def written_numbers():
    # Asked whether it is one of these, no other writing of a number can pass.
    return dict([(number_text(number), number) for number in range(-MOST_NUMBER, MOST_NUMBER + 1)])


def read_row(line):
    numbers = written_numbers()
    words = line.split(" ")
    if not all([word in numbers for word in words]):
        raise NoText("no row of a table")
    return tuple([numbers[word] for word in words])


def read_table(text):
    if not isinstance(text, str) or not text.endswith("\n"):
        raise NoText("no lines")
    table = tuple([read_row(line) for line in text[:-1].split("\n")])
    if not is_table(table):
        raise NoText("no table")
    return table
