import unittest
from itertools import product as choices

from minortables.errors import NoText
from minortables.tables import is_table
from minortables.texts import read_table, table_text
from tests.samples import BADS, FAR, GOODS, TABLES

SMALL = [table for table in TABLES + GOODS + BADS if is_table(table)]

# None of these is the writing of a table.
NO_TEXTS = [
    "", "\n", "\n\n", " ", " \n", "\n1\n", "1\n\n", "1", "1 2", "1\n2", "1 2\n3 4", "1\n\n2\n",
    "1  2\n", " 1\n", "1 \n", " 1 2\n", "1 2 \n", "1 2\n 3 4\n", "1 2\n3 4 \n", "1 2 \n3 4\n",
    "01\n", "00\n", "-01\n", "-00\n", "001\n", "1 02\n", "-0\n", "0 -0\n", "+1\n", "+0\n", "1 +2\n", "--1\n", "-+1\n",
    "-\n", "- 1\n", "1-\n", "1 -\n", "100\n", "-100\n", "1 100\n", "-100 1\n", "1000\n", "99999999999999999999\n",
    "1 2\n3\n", "1\n2 3\n", "1 2\n3 4 5\n", "1 2 3 4 5\n", "1\n2\n3\n4\n5\n", "1 2 3 4 5\n1 2 3 4 5\n", "1\n" * 6,
    "a\n", "1 a\n", "1a\n", "x1\n", "1\ta\n", "1\t2\n", "\t1\n", "1\t\n", "\t\n", "1,2\n", "1.0\n", "1.\n", ".5\n",
    "1e1\n", "1_0\n", "0x1\n", "(1,)\n", "((1,),)\n", "[1]\n", "1;2\n", "True\n", "None\n", "~\n", "1 ~\n", "!\n",
    "1\r\n", "1\n\r", "1\x0b2\n", "1\x0c\n", "\xa01\n", "\u0661\n", "\xb2\n", "\u22121\n", "1\x00\n", "1\u2028",
    "1 2\r3 4\n", "1 2\x1d3 4\n", "1 2\x853 4\n",
]


def plain_text(table):
    return "".join(" ".join(str(number) for number in row) + "\n" for row in table)


class TableText(unittest.TestCase):
    def test_told_ones(self):
        self.assertEqual(table_text(((1, 2), (3, 4))), "1 2\n3 4\n")
        self.assertEqual(table_text(((0,),)), "0\n")
        self.assertEqual(table_text(((-1, 0, 99, -99),)), "-1 0 99 -99\n")
        self.assertEqual(table_text(((5,), (-6,), (70,))), "5\n-6\n70\n")
        self.assertEqual(table_text(((100, -100),)), "100 -100\n")
        self.assertEqual(table_text(((10 ** 30, -10 ** 30),)), "1" + "0" * 30 + " -1" + "0" * 30 + "\n")

    def test_line_by_line(self):
        for table in TABLES + GOODS + BADS:
            with self.subTest(table=table):
                self.assertEqual(table_text(table), plain_text(table))

    def test_numbers_of_any_length(self):
        for digits in list(range(1, 4)) + list(range(62, 67)) + list(range(126, 131)) + [191, 192, 193, 1000]:
            for number in [10 ** digits, 10 ** digits - 1, 10 ** digits + 7, 123 * 10 ** digits // 7]:
                self.assertEqual(table_text(((number, -number),)), f"{number} {-number}\n")

    def test_numbers_of_some_thousand_digits(self):
        self.assertEqual(table_text(((10 ** 6000,),)), "1" + "0" * 6000 + "\n")
        self.assertEqual(table_text(((1, -10 ** 6000 - 2),)), "1 -1" + "0" * 5999 + "2\n")


class ReadTable(unittest.TestCase):
    def test_told_ones(self):
        self.assertEqual(read_table("1 2\n3 4\n"), ((1, 2), (3, 4)))
        self.assertEqual(read_table("0\n"), ((0,),))
        self.assertEqual(read_table("-1 0 99 -99\n"), ((-1, 0, 99, -99),))
        self.assertEqual(read_table("5\n-6\n70\n"), ((5,), (-6,), (70,)))

    def test_the_text_of_each_table(self):
        self.assertGreater(len(SMALL), 30)
        for table in SMALL:
            with self.subTest(table=table):
                told = read_table(table_text(table))
                self.assertEqual(told, table)
                self.assertIs(is_table(told), True)

    def test_each_number(self):
        for number in range(-99, 100):
            self.assertEqual(read_table(f"{number}\n"), ((number,),))
            self.assertEqual(read_table(f"0 {number}\n{number} 1\n"), ((0, number), (number, 1)))

    def test_each_size(self):
        for rows, columns in choices(range(1, 7), repeat=2):
            table = ((3,) * columns,) * rows
            if rows <= 4 and columns <= 4:
                self.assertEqual(read_table(plain_text(table)), table)
            else:
                with self.subTest(table=table), self.assertRaises(NoText):
                    read_table(plain_text(table))

    def test_all_else(self):
        for text in NO_TEXTS:
            with self.subTest(text=text), self.assertRaises(NoText):
                read_table(text)

    def test_what_is_no_text(self):
        for thing in [None, True, 0, 1, (), [], ((1,),), ["1\n"], ("1\n",), ["1", "\n"]]:
            with self.subTest(thing=thing), self.assertRaises(NoText):
                read_table(thing)

    def test_numbers_beyond_99(self):
        for number in [100, 101, 999, 1000, FAR]:
            for told in (number, -number):
                with self.subTest(told=told), self.assertRaises(NoText):
                    read_table(f"1 {told}\n")

    def test_tables_with_numbers_beyond(self):
        for table in TABLES + GOODS + BADS:
            if not is_table(table):
                with self.subTest(table=table), self.assertRaises(NoText):
                    read_table(table_text(table))

    def test_nothing_reads_but_what_is_written(self):
        # All short texts of a few signs: just those that are told back are read.
        read = 0
        for length in range(6):
            for signs in choices("01-+ \na", repeat=length):
                text = "".join(signs)
                try:
                    table = read_table(text)
                except NoText:
                    continue
                read += 1
                self.assertEqual(table_text(table), text)
        texts = set()
        for rows, columns in [(1, 1), (1, 2), (2, 1), (1, 3)]:
            words = [0, 1, -1, 10, 11, -10, -11]
            for numbers in choices(words, repeat=rows * columns):
                text = plain_text([numbers[row * columns:(row + 1) * columns] for row in range(rows)])
                if len(text) <= 5:
                    texts.add(text)
        self.assertEqual(read, len(texts))

    def test_one_sign_more_or_less(self):
        for table in SMALL:
            text = table_text(table)
            for place in range(len(text) + 1):
                for sign in " \n-0a\t":
                    self.check_back(text[:place] + sign + text[place:])
                self.check_back(text[:place] + text[place + 1:])

    def check_back(self, text):
        try:
            table = read_table(text)
        except NoText:
            return
        self.assertEqual(table_text(table), text)
        self.assertIs(is_table(table), True)
