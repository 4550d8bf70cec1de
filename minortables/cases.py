"""Cases of tables by names, which go back and forth, and their texts."""

from minortables.errors import NoBack, NoFit, NoName, NoTable, NoText
from minortables.joining import set_below, set_beside
from minortables.tables import flipped, is_table, plus, times, turned
from minortables.texts import read_table, table_text

LETTERS = "abcdefghijklmnopqrstuvwxyz"
MOST_LETTERS = 4


def is_name(thing):
    if not isinstance(thing, str) or not 1 <= len(thing) <= MOST_LETTERS:
        return False
    return all([letter in LETTERS for letter in thing])


def need_name(thing):
    if not is_name(thing):
        raise NoName("no name")


def joined(word, one, other):
    if word == "times":
        return times(one, other)
    if word == "plus":
        return plus(one, other)
    if word == "beside":
        return set_beside(one, other)
    if word == "below":
        return set_below(one, other)
    raise NoFit("no word to join by")


class Case:
    def __init__(self):
        self.tables = {}
        # Each step is (word, name, the table of this name ahead of it, and behind it), None where none had it.
        self.done = []
        self.undone = []

    def set_to(self, name, table):
        if table is None:
            self.tables.pop(name)
        else:
            self.tables[name] = table

    def do(self, word, name, table):
        self.done.append((word, name, self.tables.get(name), table))
        self.undone = []
        self.set_to(name, table)

    def put(self, name, table):
        if not is_table(table):
            raise NoTable("no table")
        need_name(name)
        had = name in self.tables
        self.do("put", name, table)
        return had

    def table_of(self, name):
        # What is no name may be something that no dict can be asked for.
        need_name(name)
        if name not in self.tables:
            raise NoName("none has the name")
        return self.tables[name]

    def take(self, name):
        table = self.table_of(name)
        self.do("take", name, None)
        return table

    def join(self, name, word, one, other):
        need_name(name)
        table = joined(word, self.table_of(one), self.table_of(other))
        if not is_table(table):
            raise NoFit("no table")
        self.do("join", name, table)
        return table

    def turn(self, name):
        table = turned(self.table_of(name))
        self.do("turn", name, table)
        return table

    def flip(self, name):
        table = flipped(self.table_of(name))
        self.do("flip", name, table)
        return table

    def names(self):
        return sorted(self.tables)

    def go(self, some, others, place):
        if len(some) == 0:
            raise NoBack("no step to go by")
        step = some.pop()
        others.append(step)
        self.set_to(step[1], step[place])
        return step[0]

    def back(self):
        return self.go(self.done, self.undone, 2)

    def forth(self):
        return self.go(self.undone, self.done, 3)

    def counts(self):
        return (len(self.done), len(self.undone))

    def twin(self):
        other = Case()
        other.tables = dict(self.tables)
        other.done = list(self.done)
        other.undone = list(self.undone)
        return other


def case_text(case):
    return "".join([name + "\n" + table_text(case.table_of(name)) + "\n" for name in case.names()])


def read_block(block):
    parts = block.partition("\n")
    if not is_name(parts[0]):
        raise NoText("no name")
    return (parts[0], read_table(parts[2] + "\n"))


def read_blocks(text):
    if text == "":
        return []
    if not isinstance(text, str) or not text.endswith("\n\n"):
        raise NoText("no lines of a case")
    return [read_block(block) for block in text[:-2].split("\n\n")]


def read_case(text):
    blocks = read_blocks(text)
    names = [name for name, table in blocks]
    if names != sorted(set(names)):
        raise NoText("names that do not rise")
    case = Case()
    # Put so that there is no step to take back.
    case.tables = dict(blocks)
    return case
