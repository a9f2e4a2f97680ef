"""Points 15.1 to 15.7, and 0.4 to 0.12 as far as they speak of them: pairorder/texts.py."""

import itertools
import random
import unittest

from pairorder.amounts import Amounts
from pairorder.errors import InvalidAmounts, InvalidOrder, InvalidTable, InvalidText
from pairorder.orders import Order
from pairorder.tables import Table
from pairorder.texts import read_amounts, read_order, read_table, show_amounts, show_order, show_table
from plain import pairs_of, small_tables, some_rows
from values import GREAT, NOT_INTEGERS, NOT_LISTS, NOT_TWOS, Checks

NINES = "9" * 60
# Words of integers, and what they say.
GOOD_AMOUNTS = [("0", 0), ("1", 1), ("7", 7), ("10", 10), ("305", 305), (NINES, GREAT), ("1" + "0" * 59, 10 ** 59)]
GOOD_PRICES = GOOD_AMOUNTS + [("-1", -1), ("-10", -10), ("-" + NINES, -GREAT), ("-9", -9)]
# No words at all, wherever they stand.
WRONG_WORDS = [
    "", "-0", "+3", "+0", "03", "00", "-03", "-00", "--", "--1", "-+1", "1-", "-1-", "1.0", "1e3", "1_000", "0x1", "1,",
    "1" + "0" * 60, "9" * 61, "-1" + "0" * 60, "0" * 60, "0" * 61, "9" * 500, "None", "True", "x", "a1", "1a", "-x",
    "\t", "1\t", "\t1", "1\r", "\r", "\x0b", "1\x0b2", "\x0c1", "\x1c", "1\x1c2", "\x85", "1\x852", "1\u20282", "\u00a01",
    "1\u00a02", "\u3000", "\u0663", "\u00b2", "\uff11", "1\u0660", "\u2212" + "1", "\u2160", "1\x00", "\x00", "0:", ":0", "::",
    "0:0:0", "00:0", "0:00", "0-0", "0;0", "8:0", "0:8", "9:9", "-1:0", "0:-1", "a:0", "0:b", "\u0663:0", "0:\uff11", "0:\t",
    "\u00b2:1", "1:\u00b2", "/:0", "0:/", "::0", "0::", "|1", "1|", "||", "|0:0", "x:0", "0:x", "x:x",
]
NOT_TEXTS = [value for value in NOT_INTEGERS + NOT_LISTS + NOT_TWOS if not isinstance(value, str)]


class Showing(Checks):
    def test_the_example(self):
        self.assertEqual(show_table(Table([[1, None], [-2, 30]])), "1 -\n-2 30")

    def test_tables(self):
        for rows, text in [([[0]], "0"), ([[None]], "-"), ([[-7]], "-7"), ([[None, None]], "- -"), ([[1], [None], [-1]], "1\n-\n-1"),
                           ([[GREAT, -GREAT], [0, 10]], f"{NINES} -{NINES}\n0 10"), ([[0] * 8] * 8, "\n".join(["0 0 0 0 0 0 0 0"] * 8))]:
            self.assertEqual(show_table(Table(rows)), text)
            self.assertIs(show_table(Table(rows)).__class__, str)

    def test_orders(self):
        self.assertEqual(show_order(Order([])), "")
        self.assertEqual(show_order(Order([(0, 7)])), "0:7")
        self.assertEqual(show_order(Order([(3, 1), (1, 3), (7, 7), (0, 0)])), "3:1 1:3 7:7 0:0")

    def test_amounts(self):
        self.assertEqual(show_amounts(Amounts([0], [5])), "0 | 5")
        self.assertEqual(show_amounts(Amounts([3, 4, 5], [10, 0])), "3 4 5 | 10 0")
        self.assertEqual(show_amounts(Amounts([GREAT], [0] * 8)), f"{NINES} | 0 0 0 0 0 0 0 0")

    def test_numbers_of_more_than_60_digits(self):
        for digits in (61, 62, 500, 2000):
            number = 10 ** digits - 1
            self.assertEqual(show_table(Table([[number, -number]])), f"{number} -{number}")
            self.assertEqual(show_amounts(Amounts([number], [0])), f"{number} | 0")
            self.refuses(InvalidText, {"line": 0, "word": 1}, read_table, show_table(Table([[0, number]])))
            self.refuses(InvalidText, {"line": 0, "word": 0}, read_amounts, show_amounts(Amounts([number], [0])))

    def test_by_names(self):
        self.assertEqual(show_table(table=Table([[1]])), "1")
        self.assertEqual(show_order(order=Order([(1, 2)])), "1:2")
        self.assertEqual(show_amounts(amounts=Amounts([1], [2])), "1 | 2")
        self.assertEqual(read_table(text="1"), Table([[1]]))
        self.assertEqual(read_order(text="1:2"), Order([(1, 2)]))
        self.assertEqual(read_amounts(text="1 | 2"), Amounts([1], [2]))


class ThereAndBack(Checks):
    """Point 15.7."""

    def test_tables(self):
        for rows in (small_tables(60, 9) + [some_rows(seed, 8, 8, -GREAT, GREAT, 0.2) for seed in range(5)]
                     + [[[GREAT] * 8] * 8, [[-GREAT]], [[None] * 8] * 8]):
            text = show_table(Table(rows))
            self.assertEqual(read_table(text), Table(rows))
            self.assertIsInstance(read_table(text), Table)
            self.assertEqual(show_table(read_table(text)), text)

    def test_orders(self):
        chance, every = random.Random(15), [(i, j) for i in range(8) for j in range(8)]
        for many in list(range(65)):
            order = Order(chance.sample(every, many))
            self.assertEqual(read_order(show_order(order)), order)
            self.assertIsInstance(read_order(show_order(order)), Order)
            self.assertEqual(show_order(read_order(show_order(order))), show_order(order))

    def test_amounts(self):
        chance = random.Random(15)
        for many, wide in itertools.product(range(1, 9), repeat=2):
            amounts = Amounts([chance.randint(0, GREAT) for _ in range(many)], [chance.randint(0, 9) for _ in range(wide)])
            self.assertEqual(read_amounts(show_amounts(amounts)), amounts)
            self.assertIsInstance(read_amounts(show_amounts(amounts)), Amounts)
            self.assertEqual(show_amounts(read_amounts(show_amounts(amounts))), show_amounts(amounts))


class ReadingTables(Checks):
    def test_words(self):
        for word, number in GOOD_PRICES + [("-", None)]:
            self.assertEqual(read_table(word).rows(), [[number]])
            self.assertEqual(read_table(f"{word} 1\n- {word}").rows(), [[number, 1], [None, number]])
            self.assertIs(read_table(word).rows()[0][0].__class__, number.__class__)

    def test_wrong_words(self):
        for wrong in WRONG_WORDS + ["|", "0:0"]:
            self.refuses(InvalidText, {"line": 0, "word": 0}, read_table, wrong)
            for i, j in itertools.product(range(3), repeat=2):
                words = [["1", "-", "2"], ["-3", "4", "-"], ["0", "10", "7"]]
                words[i][j] = wrong
                text = "\n".join(" ".join(row) for row in words)
                self.refuses(InvalidText, {"line": i, "word": j}, read_table, text)

    def test_the_first_wrong_word_counts(self):
        self.refuses(InvalidText, {"line": 0, "word": 2}, read_table, "1 2 x\ny 2 3")
        self.refuses(InvalidText, {"line": 1, "word": 0}, read_table, "1 2 3\ny z 3")
        self.refuses(InvalidText, {"line": 1, "word": 1}, read_table, "1 2 3\n1 03")
        self.refuses(InvalidText, {"line": 9, "word": 9}, read_table, "1\n" * 9 + "1 " * 9 + "x")

    def test_spaces_and_newlines(self):
        for text, line, word in [("", 0, 0), (" ", 0, 0), ("1 ", 0, 1), (" 1", 0, 0), ("1  2", 0, 1), ("1 2\n", 1, 0),
                                 ("\n1 2", 0, 0), ("1 2\n\n3 4", 1, 0), ("1 2 \n3 4", 0, 2), ("1 2\n 3 4", 1, 0), ("\n", 0, 0),
                                 ("1\n2\n", 2, 0), ("1 2\n3 4 ", 1, 2), ("1\r\n2", 0, 0), ("1\n\r2", 1, 0), ("1\t2", 0, 0),
                                 ("- ", 0, 1), ("-\n", 1, 0), ("1 2\n3  4", 1, 1), ("1\x0b2", 0, 0), ("1\u20282", 0, 0),
                                 ("1 2\x1c3 4", 0, 1), ("   ", 0, 0), ("\n\n", 0, 0)]:
            self.refuses(InvalidText, {"line": line, "word": word}, read_table, text)

    def test_good_words_that_are_no_table(self):
        for text, at in [("1 2\n3", 1), ("1\n2 3", 1), ("1 2\n3 4\n5 6 7", 2), ("1 2\n3\n4", 1), ("1 " * 8 + "1", 0),
                         ("1 " * 8 + "1\n2", 0), ("- -\n-", 1), ("\n".join("1" * 9), -1), ("\n".join(["1 2"] * 9), -1),
                         ("\n".join(["1 " * 8 + "1"] * 9), -1), ("\n".join(["1", "2", "3"] + ["4 4"]), 3)]:
            self.refuses(InvalidTable, {"at": at}, read_table, text)

    def test_words_come_before_the_table(self):
        self.refuses(InvalidText, {"line": 2, "word": 0}, read_table, "1 2\n3\nx")
        self.refuses(InvalidText, {"line": 9, "word": 0}, read_table, "1\n" * 9)
        self.refuses(InvalidText, {"line": 0, "word": 20}, read_table, "1 " * 20)

    def test_values_that_are_no_strings(self):
        for value in NOT_TEXTS + [Table([[1]]), [["1"]], ["1 2"], ("1",), b"1 2", {"1": 2}, 12, None]:
            self.refuses(InvalidText, {"line": -1, "word": -1}, read_table, value)


class ReadingOrders(Checks):
    def test_words(self):
        self.assertEqual(read_order("").pairs(), [])
        for i, j in itertools.product(range(8), repeat=2):
            self.assertEqual(read_order(f"{i}:{j}").pairs(), [(i, j)])
        self.assertEqual(read_order("3:1 1:3 7:7 0:0").pairs(), [(3, 1), (1, 3), (7, 7), (0, 0)])

    def test_wrong_words(self):
        for wrong in WRONG_WORDS + ["|", "-", "0", "1", "-1", "(0,", "0:0\n", "\n0:0", "0:0\n1:1", "\n", "0\n0", "0:\n"]:
            if wrong != "":
                self.refuses(InvalidText, {"line": 0, "word": 0}, read_order, wrong)
            for at in range(4):
                words = ["0:0", "0:1", "7:7", "1:0"]
                words[at] = wrong
                self.refuses(InvalidText, {"line": 0, "word": at}, read_order, " ".join(words))

    def test_spaces(self):
        for text, word in [(" ", 0), ("0:0 ", 1), (" 0:0", 0), ("0:0  1:1", 1), ("0:0 1:1 ", 2), ("0:0\t1:1", 0),
                           ("0:0 1:1\n", 1), ("0:0\n1:1 2:2", 0), ("  ", 0), ("0:0 1:1\n2:2 x", 1)]:
            self.refuses(InvalidText, {"line": 0, "word": word}, read_order, text)

    def test_good_words_that_are_no_order(self):
        self.refuses(InvalidOrder, {"at": 1}, read_order, "0:0 0:0")
        self.refuses(InvalidOrder, {"at": 2}, read_order, "0:1 1:0 0:1 1:0")
        every = [f"{i}:{j}" for i in range(8) for j in range(8)]
        self.assertEqual(len(read_order(" ".join(every))), 64)
        self.refuses(InvalidOrder, {"at": -1}, read_order, " ".join(every + ["0:0"]))
        self.refuses(InvalidOrder, {"at": -1}, read_order, " ".join(["0:0"] * 65))
        self.refuses(InvalidOrder, {"at": 1}, read_order, " ".join(["0:0"] * 64))

    def test_words_come_before_the_order(self):
        self.refuses(InvalidText, {"line": 0, "word": 2}, read_order, "0:0 0:0 x")
        self.refuses(InvalidText, {"line": 0, "word": 70}, read_order, "0:0 " * 70)

    def test_values_that_are_no_strings(self):
        for value in NOT_TEXTS + [Order([]), [], ["0:0"], ("0:0",), b"0:0", b"", None, 0, False]:
            self.refuses(InvalidText, {"line": -1, "word": -1}, read_order, value)


class ReadingAmounts(Checks):
    def test_the_example(self):
        self.refuses(InvalidText, {"line": 0, "word": 3}, read_amounts, "3 4 5")

    def test_words(self):
        for word, number in GOOD_AMOUNTS:
            amounts = read_amounts(f"{word} 1 | 0 {word}")
            self.assertEqual((amounts.stocks(), amounts.wishes()), ([number, 1], [0, number]))

    def test_wrong_words(self):
        for wrong in WRONG_WORDS + ["-", "-3", "-1", "-" + NINES, "0:0", "3\n", "\n3", "3\n4", "\n", "|\n", "\n|"]:
            self.refuses(InvalidText, {"line": 0, "word": 0}, read_amounts, wrong)
            for at in (0, 1, 3, 4, 5):
                words = ["1", "2", "|", "3", "4", "5"]
                words[at] = wrong
                self.refuses(InvalidText, {"line": 0, "word": at}, read_amounts, " ".join(words))
            self.refuses(InvalidText, {"line": 0, "word": 2}, read_amounts, " ".join(["1", "2", wrong, "3"]))

    def test_bars(self):
        for text, word in [("3 | 4 | 5", 3), ("| |", 1), ("| | |", 1), ("3 | |", 2), ("| 3 |", 2), ("3 | 4 | x", 3), ("3 | x | 4", 2),
                           ("3", 1), ("3 4 5", 3), ("0", 1), ("1 2 3 4 5 6 7 8 9 10 11", 11), ("x |", 0), ("3 4 x", 2), ("3|4", 0)]:
            self.refuses(InvalidText, {"line": 0, "word": word}, read_amounts, text)

    def test_spaces(self):
        for text, word in [("", 0), (" ", 0), ("3 | 4 ", 3), (" 3 | 4", 0), ("3  | 4", 1), ("3 |  4", 2), ("3 | 4\n", 2),
                           ("3\n| 4", 0), ("3\t| 4", 0), ("3 |\t4", 1), ("| ", 1), (" |", 0), ("3 | ", 2)]:
            self.refuses(InvalidText, {"line": 0, "word": word}, read_amounts, text)

    def test_good_words_that_are_no_amounts(self):
        nine = "1 2 3 4 5 6 7 8 9"
        for text, word in [("| 3", "stocks"), ("3 |", "wishes"), ("|", "stocks"), (f"{nine} | 1", "stocks"), (f"1 | {nine}", "wishes"),
                           (f"{nine} | {nine}", "stocks"), (f"{nine} |", "stocks"), (f"| {nine}", "stocks")]:
            self.refuses(InvalidAmounts, {"word": word, "at": -1}, read_amounts, text)
        self.assertEqual(read_amounts("1 2 3 4 5 6 7 8 | 8 7 6 5 4 3 2 1").over(), 0)

    def test_words_come_before_the_amounts(self):
        self.refuses(InvalidText, {"line": 0, "word": 1}, read_amounts, "| x")
        self.refuses(InvalidText, {"line": 0, "word": 9}, read_amounts, "1 " * 9 + "x | 1")
        self.refuses(InvalidText, {"line": 0, "word": 9}, read_amounts, "1 2 3 4 5 6 7 8 9")

    def test_values_that_are_no_strings(self):
        for value in NOT_TEXTS + [Amounts([1], [1]), ["1 | 1"], [], ("1", "|", "1"), b"1 | 1", None, 11]:
            self.refuses(InvalidText, {"line": -1, "word": -1}, read_amounts, value)


class Forms(Checks):
    def test_every_short_text(self):
        """A text is read exactly if showing what was read gives it again."""
        read = {read_table: 0, read_order: 0, read_amounts: 0}
        shown = {read_table: show_table, read_order: show_order, read_amounts: show_amounts}
        wrong = {read_table: InvalidTable, read_order: InvalidOrder, read_amounts: InvalidAmounts}
        for many in range(6):
            for signs in itertools.product("01-: |\n", repeat=many):
                text = "".join(signs)
                for work, show in shown.items():
                    try:
                        found = show(work(text))
                    except (InvalidText, wrong[work]):
                        continue
                    self.assertEqual(found, text)
                    read[work] += 1
        self.assertEqual(read[read_order], 1 + 4)
        self.assertGreater(min(read[read_table], read[read_amounts]), 3)

    def test_every_shown_text_is_read(self):
        for numbers in itertools.product([0, 1, 10, -1, None], repeat=4):
            for rows in ([list(numbers)], [[number] for number in numbers], [list(numbers[:2]), list(numbers[2:])]):
                self.assertEqual(read_table(show_table(Table(rows))), Table(rows))
        for pairs in itertools.permutations(pairs_of([[0, 0], [0, 0]]), 3):
            self.assertEqual(read_order(show_order(Order(list(pairs)))), Order(list(pairs)))


if __name__ == "__main__":
    unittest.main()
