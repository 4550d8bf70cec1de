import unittest
from copy import deepcopy
from itertools import product as choices

from minortables.cases import Case, case_text, read_case
from minortables.errors import MinorError, NoBack, NoFit, NoName, NoTable, NoText
from minortables.joining import set_below, set_beside
from minortables.tables import flipped, is_table, plus, times, turned
from minortables.texts import table_text
from tests.samples import BADS, FAR, GOODS, NO_TABLES, TABLES
from tests.test_texts import NO_TEXTS

ONE = ((1, 2), (3, 4))
TWO = ((5, -6), (7, 8))
EVEN = ((1, 2), (2, 1))
LONG = ((1, 2, 3, 4),)
BIG = ((99, -99), (50, 0))
JOINS = {"times": times, "plus": plus, "beside": set_beside, "below": set_below}
SMALL = [table for table in TABLES + GOODS + BADS if is_table(table)]
NAMES = ["a", "z", "ab", "zz", "abc", "abcd", "zzzz", "m"]

# None of these is a name.
NO_NAMES = [
    "", "abcde", "aaaaaaaa", "A", "Ab", "aB", "a1", "1", "0", " ", "a ", " a", "a b", "a\n", "\n", "a_b", "_", "-",
    "a-b", "\xe4", "\xdf", "\u0430", "{", "`", "a{", "~", "a\t", "\x00", "ab.c",
    None, True, False, 0, 1, -1, FAR, (), [], ("a",), ["a"], ("a", "b"), [["a"]], (["a"],), [[[[["a"]]]]],
    (((((),),),),), {},
]

# None of these is the writing of a case.
NO_CASE_TEXTS = [
    "\n", "\n\n", "\n\n\n", "a", "a\n", "a\n\n", "a\n\n\n", "a\n1", "a\n1\n", "a\n1\n\n\n", "\na\n1\n\n", "a\n\n1\n\n",
    "a\n1\n\n\nb\n2\n\n", "a\n1\nb\n2\n\n", "a\n1\n\nb\n2\n", "a\n1\n\nb\n\n", "a\n1\n\nb", "a\n1\n\n ", " a\n1\n\n",
    "a\n1\n \n", "a \n1\n\n", "a\n1 \n\n", "a\n 1\n\n", "a 1\n\n", "a\n1\n\nb 2\n\n", "1\n\n", "1\na\n\n",
    "1 2\n3 4\n\n",
    "b\n1\n\na\n1\n\n", "a\n1\n\na\n1\n\n", "a\n1\n\na\n2\n\n", "a\n1\n\nc\n1\n\nb\n1\n\n", "ab\n1\n\na\n1\n\n",
    "b\n1\n\nab\n1\n\n", "a\n1\n\nb\n1\n\nb\n1\n\n",
    "A\n1\n\n", "abcde\n1\n\n", "a1\n1\n\n", "\xe4\n1\n\n", "-\n1\n\n", "0\n1\n\n",
    "a\n100\n\n", "a\n1 2\n3\n\n", "a\n01\n\n", "a\n-0\n\n", "a\n+1\n\n", "a\n1  2\n\n", "a\n1\t2\n\n", "a\nb\n\n",
    "a\n1\n2\n3\n4\n5\n\n", "a\n1 2 3 4 5\n\n", "a\n\n\n", "a\r\n1\r\n\r\n", "a\n1\r\n\n", "a\n1\n\r\n",
    "a\n1\n\n\x00", "a\n1\n\nb\n2\n\n\n", "a\n1\n\n\n\nb\n2\n\n",
]

NO_TEXT_THINGS = [
    None, True, False, 0, 1, -1, FAR, (), [], ("a",), ["a"], [""], ("",), ["a\n1\n\n"], ("a\n1\n\n",), ("a", ONE),
    [("a", ONE)], ONE, [[1]], (((((),),),),), [[[[[]]]]], {}, ["a", "\n", "1", "\n", "\n"],
]


def shown(case):
    """All that a case tells of itself."""
    return ([(name, case.table_of(name)) for name in case.names()], case.counts())


def whole_way(case):
    """All that it has been and can be again, by a twin of it."""
    told = [shown(case)]
    for go in ("back", "forth"):
        other = case.twin()
        try:
            while True:
                told.append((getattr(other, go)(), shown(other)))
        except NoBack:
            told.append(go)
    return told


def filled(*pairs):
    case = Case()
    for name, table in pairs:
        case.put(name, table)
    return case


def gone_back():
    """A case with steps both to take back and to do again."""
    case = filled(("a", ONE), ("b", TWO), ("c", EVEN))
    case.turn("a")
    case.back()
    case.back()
    return case


class CaseChecks(unittest.TestCase):
    def refused(self, error, case, tell):
        kept = whole_way(case)
        with self.assertRaises(error):
            tell()
        self.assertEqual(whole_way(case), kept)


class PutAndTake(CaseChecks):
    def test_a_new_case(self):
        case = Case()
        self.assertEqual(case.names(), [])
        self.assertEqual(case.counts(), (0, 0))
        for name in NAMES:
            self.refused(NoName, case, lambda: case.table_of(name))

    def test_put_tells_whether_one_had_the_name(self):
        case = Case()
        self.assertIs(case.put("a", ONE), False)
        self.assertIs(case.put("b", ONE), False)
        self.assertIs(case.put("a", TWO), True)
        self.assertIs(case.put("a", TWO), True)
        self.assertEqual(case.table_of("a"), TWO)
        self.assertEqual(case.table_of("b"), ONE)
        case.take("a")
        self.assertIs(case.put("a", ONE), False)
        self.assertEqual(case.counts(), (6, 0))

    def test_all_names_and_tables(self):
        case = Case()
        for table in SMALL:
            for name in NAMES:
                case.put(name, table)
                self.assertEqual(case.table_of(name), table)
        self.assertEqual(case.names(), sorted(NAMES))
        self.assertEqual(case.counts(), (len(SMALL) * len(NAMES), 0))

    def test_names_rise(self):
        case = filled(*[(name, ONE) for name in ["zz", "b", "aa", "z", "a", "abcd", "b"]])
        self.assertIsInstance(case.names(), list)
        self.assertEqual(case.names(), ["a", "aa", "abcd", "b", "z", "zz"])

    def test_table_of_is_no_step(self):
        case = filled(("a", ONE))
        kept = whole_way(case)
        self.assertEqual(case.table_of("a"), ONE)
        case.names()
        case.counts()
        self.assertEqual(whole_way(case), kept)

    def test_what_is_no_table(self):
        for case in [Case(), filled(("a", ONE)), gone_back()]:
            for thing in NO_TABLES + [((100,),), ((1, 2), (3, -100)), ((FAR,),)]:
                for name in ["a", "b"] + NO_NAMES[:4] + [None, [], ("a",)]:
                    with self.subTest(thing=thing, name=name):
                        self.refused(NoTable, case, lambda: case.put(name, thing))

    def test_what_is_no_name(self):
        for case in [Case(), filled(("a", ONE)), gone_back()]:
            for thing in NO_NAMES:
                kept = deepcopy(thing)
                with self.subTest(thing=thing):
                    self.refused(NoName, case, lambda: case.put(thing, ONE))
                    self.refused(NoName, case, lambda: case.table_of(thing))
                    self.refused(NoName, case, lambda: case.take(thing))
                    self.refused(NoName, case, lambda: case.turn(thing))
                    self.refused(NoName, case, lambda: case.flip(thing))
                self.assertEqual(thing, kept)

    def test_a_name_that_none_has(self):
        for case in [Case(), filled(("a", ONE), ("abcd", TWO)), gone_back()]:
            for name in ["q", "c", "aa", "abc"]:
                for tell in (case.table_of, case.take, case.turn, case.flip):
                    with self.subTest(name=name, tell=tell.__name__):
                        self.refused(NoName, case, lambda: tell(name))

    def test_take(self):
        case = filled(("a", ONE), ("b", TWO))
        self.assertEqual(case.take("a"), ONE)
        self.assertEqual(case.names(), ["b"])
        self.assertEqual(case.counts(), (3, 0))
        self.refused(NoName, case, lambda: case.take("a"))
        self.assertEqual(case.take("b"), TWO)
        self.assertEqual(case.names(), [])


class Join(CaseChecks):
    def test_told_ones(self):
        case = filled(("a", ONE), ("b", EVEN))
        self.assertEqual(case.join("c", "times", "a", "b"), ((5, 4), (11, 10)))
        self.assertEqual(case.join("d", "plus", "a", "b"), ((2, 4), (5, 5)))
        self.assertEqual(case.join("e", "beside", "a", "b"), ((1, 2, 1, 2), (3, 4, 2, 1)))
        self.assertEqual(case.join("f", "below", "a", "b"), ((1, 2), (3, 4), (1, 2), (2, 1)))
        self.assertEqual(case.names(), ["a", "b", "c", "d", "e", "f"])
        self.assertEqual(case.table_of("e"), ((1, 2, 1, 2), (3, 4, 2, 1)))
        self.assertEqual(case.counts(), (6, 0))

    def test_each_word_on_all_tables(self):
        fine = {word: 0 for word in JOINS}
        for one, other in choices(SMALL, repeat=2):
            for word, tell in JOINS.items():
                try:
                    asked = tell(one, other)
                except NoFit:
                    asked = None
                case = filled(("a", one), ("b", other))
                if asked is not None and is_table(asked):
                    fine[word] += 1
                    self.assertEqual(case.join("c", word, "a", "b"), asked)
                    self.assertEqual(shown(case), ([("a", one), ("b", other), ("c", asked)], (3, 0)))
                else:
                    with self.assertRaises(NoFit):
                        case.join("c", word, "a", "b")
                    self.assertEqual(shown(case), ([("a", one), ("b", other)], (2, 0)))
        self.assertGreater(min(fine.values()), 10)

    def test_the_name_may_be_one_of_both(self):
        case = filled(("a", ONE), ("b", EVEN))
        self.assertEqual(case.join("a", "times", "a", "b"), ((5, 4), (11, 10)))
        self.assertEqual(case.table_of("a"), ((5, 4), (11, 10)))
        self.assertEqual(case.join("b", "plus", "b", "b"), ((2, 4), (4, 2)))
        self.assertEqual(case.names(), ["a", "b"])
        case.back()
        case.back()
        self.assertEqual(shown(case), ([("a", ONE), ("b", EVEN)], (2, 2)))

    def test_no_name_of_each_of_the_three(self):
        # Each of these does not fit either, so that NoName is seen to come first.
        case = filled(("a", ONE), ("b", LONG))
        for word in JOINS:
            for thing in NO_NAMES:
                with self.subTest(word=word, thing=thing):
                    self.refused(NoName, case, lambda: case.join(thing, word, "b", "a"))
                    self.refused(NoName, case, lambda: case.join("c", word, thing, "a"))
                    self.refused(NoName, case, lambda: case.join("c", word, "b", thing))
                    self.refused(NoName, case, lambda: case.join(thing, word, thing, thing))
            self.refused(NoName, case, lambda: case.join("c", word, "q", "a"))
            self.refused(NoName, case, lambda: case.join("c", word, "a", "q"))
            self.refused(NoName, case, lambda: case.join("c", word, "c", "c"))
            self.refused(NoName, case, lambda: case.join("", word, "q", "q"))

    def test_what_does_not_fit(self):
        case = filled(("a", ONE), ("b", LONG), ("c", ((1,), (2,), (3,))), ("d", ((1, 2, 3),)))
        for word, one, other in [("times", "b", "a"), ("times", "a", "b"), ("plus", "a", "b"), ("plus", "c", "d"),
                                 ("beside", "a", "b"), ("below", "a", "b"), ("beside", "b", "b"), ("below", "c", "c"),
                                 ("beside", "b", "d"), ("below", "c", "a")]:
            with self.subTest(word=word, one=one, other=other):
                self.refused(NoFit, case, lambda: case.join("e", word, one, other))
                self.refused(NoFit, case, lambda: case.join("a", word, one, other))

    def test_another_word(self):
        case = gone_back()
        for word in ["", "Times", "aslant", "join", None, 0, (), ["times"]]:
            with self.subTest(word=word):
                self.refused(NoFit, case, lambda: case.join("c", word, "a", "b"))
                self.refused(NoName, case, lambda: case.join("c", word, "a", "q"))

    def test_where_a_number_were_beyond_99(self):
        case = filled(("a", BIG), ("b", ((1, 0), (0, 1))), ("c", ((0, -1), (0, 0))), ("d", ((2, 0), (0, 2))))
        for word, one, other in [("plus", "a", "b"), ("plus", "a", "c"), ("plus", "a", "a"), ("times", "a", "a"),
                                 ("times", "a", "d"), ("times", "d", "a")]:
            with self.subTest(word=word, one=one, other=other):
                self.refused(NoFit, case, lambda: case.join("e", word, one, other))
        self.assertEqual(case.join("e", "times", "a", "b"), BIG)

    def test_up_to_99_and_no_more(self):
        for sign in (1, -1):
            case = filled(("a", ((sign * 98,),)), ("b", ((sign,),)))
            self.assertEqual(case.join("a", "plus", "a", "b"), ((sign * 99,),))
            self.refused(NoFit, case, lambda: case.join("a", "plus", "a", "b"))

    def test_refused_amid_back_and_forth(self):
        case = gone_back()
        for word in JOINS:
            self.refused(NoName, case, lambda: case.join("d", word, "a", "c"))
            self.refused(NoName, case, lambda: case.join("D", word, "a", "b"))
        case.put("l", LONG)
        case.put("m", LONG)
        case.back()
        for word in ("times", "beside"):
            self.refused(NoFit, case, lambda: case.join("d", word, "l", "l"))
        self.assertEqual(case.counts(), (3, 1))


class TurnAndFlip(CaseChecks):
    def test_what_they_tell_and_keep(self):
        for table in SMALL:
            case = filled(("a", table), ("b", ONE))
            self.assertEqual(case.turn("a"), turned(table))
            self.assertEqual(case.table_of("a"), turned(table))
            self.assertEqual(case.flip("a"), flipped(turned(table)))
            self.assertEqual(case.table_of("a"), flipped(turned(table)))
            self.assertEqual(case.table_of("b"), ONE)
            self.assertEqual(case.counts(), (4, 0))

    def test_told_ones(self):
        case = filled(("a", ((1, 2, 3), (4, 5, 6))))
        self.assertEqual(case.turn("a"), ((1, 4), (2, 5), (3, 6)))
        self.assertEqual(case.flip("a"), ((6, 3), (5, 2), (4, 1)))


class BackAndForth(CaseChecks):
    def test_through_every_kind_of_step(self):
        case = Case()
        seen = [shown(case)]
        words = ["put", "put", "put", "join", "turn", "flip", "take", "put", "join"]
        for go in [lambda: case.put("a", ONE), lambda: case.put("b", TWO), lambda: case.put("a", TWO),
                   lambda: case.join("c", "below", "a", "b"), lambda: case.turn("c"), lambda: case.flip("a"),
                   lambda: case.take("b"), lambda: case.put("b", ONE), lambda: case.join("b", "plus", "b", "a")]:
            go()
            seen.append(shown(case))
        for turn in range(3):
            for place in range(len(words) - 1, -1, -1):
                self.assertEqual(case.back(), words[place])
                self.assertEqual(shown(case)[0], seen[place][0])
                self.assertEqual(case.counts(), (place, len(words) - place))
            self.refused(NoBack, case, case.back)
            for place in range(len(words)):
                self.assertEqual(case.forth(), words[place])
                self.assertEqual(shown(case)[0], seen[place + 1][0])
                self.assertEqual(case.counts(), (place + 1, len(words) - place - 1))
            self.refused(NoBack, case, case.forth)

    def test_steps_that_changed_nothing(self):
        case = filled(("a", EVEN))
        self.assertIs(case.put("a", EVEN), True)
        self.assertEqual(case.turn("a"), EVEN)
        self.assertEqual(case.flip("a"), EVEN)
        case.put("n", ((0, 0), (0, 0)))
        self.assertEqual(case.join("a", "plus", "a", "n"), EVEN)
        self.assertEqual(case.counts(), (6, 0))
        words = [case.back() for step in range(6)]
        self.assertEqual(words, ["join", "put", "flip", "turn", "put", "put"])
        self.assertEqual(shown(case), ([], (0, 6)))
        self.assertEqual([case.forth() for step in range(6)], words[::-1])
        self.assertEqual(shown(case), ([("a", EVEN), ("n", ((0, 0), (0, 0)))], (6, 0)))

    def test_no_back_at_both_ends(self):
        case = Case()
        self.refused(NoBack, case, case.back)
        self.refused(NoBack, case, case.forth)
        case.put("a", ONE)
        self.refused(NoBack, case, case.forth)
        case.back()
        self.refused(NoBack, case, case.back)
        case.forth()
        self.refused(NoBack, case, case.forth)

    def test_no_forth_behind_another_step(self):
        for go in [lambda case: case.put("a", ONE), lambda case: case.put("q", ONE), lambda case: case.take("a"),
                   lambda case: case.join("q", "plus", "a", "b"), lambda case: case.turn("b"),
                   lambda case: case.flip("b")]:
            case = gone_back()
            self.assertEqual(case.counts(), (2, 2))
            go(case)
            self.assertEqual(case.counts(), (3, 0))
            self.refused(NoBack, case, case.forth)
            case.back()
            self.assertEqual(shown(case), ([("a", ONE), ("b", TWO)], (2, 1)))

    def test_what_is_refused_leaves_forth_as_it_was(self):
        case = gone_back()
        for go in [lambda: case.put("a", None), lambda: case.put("A", ONE), lambda: case.take("q"),
                   lambda: case.table_of("q"), lambda: case.turn("q"), lambda: case.flip("q"),
                   lambda: case.join("q", "plus", "a", "q"), lambda: case.join("a", "times", "q", "b")]:
            self.refused(MinorError, case, go)
            self.assertEqual(case.counts(), (2, 2))
        self.assertEqual([case.forth(), case.forth()], ["put", "turn"])
        self.assertEqual(case.table_of("a"), turned(ONE))

    def test_all_short_runs_of_steps(self):
        steps = [("put", lambda case: case.put("a", ONE)), ("put", lambda case: case.put("b", TWO)),
                 ("take", lambda case: case.take("a")), ("turn", lambda case: case.turn("a")),
                 ("flip", lambda case: case.flip("b")), ("join", lambda case: case.join("a", "plus", "a", "b")),
                 ("join", lambda case: case.join("b", "below", "b", "a")),
                 ("back", lambda case: case.back()), ("forth", lambda case: case.forth())]
        for run in choices(steps, repeat=4):
            case = filled(("a", EVEN))
            # What the case was like behind each step, and the words between.
            seen, words, at = [[], shown(case)[0]], ["put"], 1
            for word, go in run:
                if word in ("back", "forth"):
                    to = at - 1 if word == "back" else at + 1
                    if 0 <= to < len(seen):
                        self.assertEqual(go(case), words[min(at, to)])
                        at = to
                    else:
                        with self.assertRaises(NoBack):
                            go(case)
                else:
                    try:
                        go(case)
                    except MinorError:
                        pass
                    else:
                        seen, words, at = seen[:at + 1] + [shown(case)[0]], words[:at] + [word], at + 1
                self.assertEqual(shown(case), (seen[at], (at, len(seen) - 1 - at)))


class Twin(CaseChecks):
    def test_the_same(self):
        for case in [Case(), filled(("a", ONE)), gone_back()]:
            other = case.twin()
            self.assertIsInstance(other, Case)
            self.assertIsNot(other, case)
            self.assertEqual(whole_way(other), whole_way(case))

    def check_apart(self, first, second):
        kept = whole_way(second)
        for go in [lambda: first.back(), lambda: first.forth(), lambda: first.forth(), lambda: first.back(),
                   lambda: first.put("a", LONG), lambda: first.put("new", ONE), lambda: first.flip("a"),
                   lambda: first.turn("a"), lambda: first.take("b"), lambda: first.join("c", "times", "new", "new"),
                   lambda: first.back(), lambda: first.back()]:
            go()
            self.assertEqual(whole_way(second), kept)

    def test_each_goes_by_itself(self):
        case = gone_back()
        self.check_apart(case, case.twin())
        case = gone_back()
        other = case.twin()
        self.check_apart(other, case)
        case = gone_back()
        other = case.twin().twin()
        self.check_apart(other, case)

    def test_they_go_on_alike(self):
        case = gone_back()
        other = case.twin()
        for go in ["back", "forth", "forth", "forth", "back", "back", "back"]:
            self.assertEqual(getattr(case, go)(), getattr(other, go)())
            self.assertEqual(shown(case), shown(other))

    def test_new_cases_have_nothing_of_others(self):
        filled(("a", ONE)).back()
        self.assertEqual(shown(Case()), ([], (0, 0)))


class Texts(CaseChecks):
    def test_told_ones(self):
        self.assertEqual(case_text(Case()), "")
        self.assertEqual(case_text(filled(("a", ONE))), "a\n1 2\n3 4\n\n")
        self.assertEqual(case_text(filled(("zz", ((0,),)), ("ab", LONG), ("z", ((-99,), (5,))))),
                         "ab\n1 2 3 4\n\nz\n-99\n5\n\nzz\n0\n\n")

    def test_as_the_texts_of_its_tables(self):
        for table in SMALL:
            case = filled(("m", table), ("b", ONE), ("zz", table))
            kept = whole_way(case)
            asked = "b\n1 2\n3 4\n\nm\n" + table_text(table) + "\nzz\n" + table_text(table) + "\n"
            self.assertEqual(case_text(case), asked)
            self.assertEqual(whole_way(case), kept)

    def test_what_is_taken_back_is_not_written(self):
        case = gone_back()
        self.assertEqual(case_text(case), "a\n1 2\n3 4\n\nb\n5 -6\n7 8\n\n")
        case.take("a")
        self.assertEqual(case_text(case), "b\n5 -6\n7 8\n\n")

    def test_read_back(self):
        cases = [Case(), gone_back(), filled(*zip(NAMES, SMALL))] + [filled(("q", table)) for table in SMALL]
        for case in cases:
            kept = whole_way(case)
            told = read_case(case_text(case))
            self.assertIsInstance(told, Case)
            self.assertEqual(shown(told), (shown(case)[0], (0, 0)))
            self.assertEqual(case_text(told), case_text(case))
            self.refused(NoBack, told, told.back)
            self.refused(NoBack, told, told.forth)
            told.put("q", TWO)
            self.assertEqual(told.back(), "put")
            told.put("new", ONE)
            self.assertEqual(told.counts(), (1, 0))
            self.assertEqual(whole_way(case), kept)

    def test_each_read_case_goes_by_itself(self):
        text = "a\n1 2\n3 4\n\n"
        one = read_case(text)
        other = read_case(text)
        one.take("a")
        self.assertEqual(other.names(), ["a"])
        self.assertEqual(read_case(text).names(), ["a"])
        read_case("").put("a", ONE)
        self.assertEqual(read_case("").names(), [])

    def test_told_ones_read(self):
        self.assertEqual(shown(read_case("")), ([], (0, 0)))
        self.assertEqual(shown(read_case("a\n-1 2\n\n")), ([("a", ((-1, 2),))], (0, 0)))
        self.assertEqual(shown(read_case("a\n1\n\naa\n2\n\nb\n3\n4\n\n")),
                         ([("a", ((1,),)), ("aa", ((2,),)), ("b", ((3,), (4,)))], (0, 0)))

    def test_all_else(self):
        for text in NO_CASE_TEXTS:
            with self.subTest(text=text), self.assertRaises(NoText):
                read_case(text)
        for text in NO_TEXTS:
            for told in ["a\n" + text + "\n", "a\n1\n\nb\n" + text + "\n", "a\n" + text + "\nb\n1\n\n"]:
                with self.subTest(told=told), self.assertRaises(NoText):
                    read_case(told)

    def test_any_other_thing(self):
        for thing in NO_TEXT_THINGS + [Case()]:
            kept = deepcopy(thing) if not isinstance(thing, Case) else thing
            with self.subTest(thing=thing), self.assertRaises(NoText):
                read_case(thing)
            self.assertEqual(thing, kept)

    def test_names_that_are_none(self):
        for name in NO_NAMES:
            with self.subTest(name=name), self.assertRaises(NoText):
                read_case(f"{name}\n1\n\n" if isinstance(name, str) else name)

    def test_nothing_reads_but_what_is_written(self):
        for text in ["a\n1 2\n3 4\n\n", "a\n0\n\nab\n-7\n\n", "b\n1\n\nc\n10 9\n\nd\n2\n\n"]:
            for place in range(len(text) + 1):
                for sign in " \n-0ab\tA":
                    self.check_back(text[:place] + sign + text[place:])
                    self.check_back(text[:place] + sign + text[place + 1:])
                self.check_back(text[:place] + text[place + 1:])
                self.check_back(text[:place])
        for length in range(7):
            for signs in choices("a1 \n", repeat=length):
                self.check_back("".join(signs))

    def check_back(self, text):
        try:
            case = read_case(text)
        except NoText:
            return
        self.assertEqual(case_text(case), text)
