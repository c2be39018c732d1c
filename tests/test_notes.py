import copy
import itertools
import random
import unittest

from movesatonce import notes
from movesatonce.errors import BadText
from movesatonce.notes import read_lead, written

NUMBERS = {str(number) for number in range(1000)}

# Words that are no pair; the empty one stands in the tests of blanks.
WRONG = [
    "<",
    "0",
    "12",
    "0<",
    "<0",
    "00<1",
    "1<00",
    "000<1",
    "07<1",
    "1<07",
    "1<007",
    "010<1",
    "-1<1",
    "1<-1",
    "-0<1",
    "+1<1",
    "1<+1",
    "1000<1",
    "1<1000",
    "1234<1",
    "1<0999",
    "9" * 30 + "<1",
    "1<" + "9" * 30,
    "1<2<3",
    "1<<2",
    "<1<2",
    "1<2<",
    "1>2",
    "1=2",
    "1-2",
    "1,2",
    "1:2",
    "1;2",
    "1_0<2",
    "1<2_0",
    "a<1",
    "1<a",
    "0x1<2",
    "1e1<2",
    "1.0<2",
    "(1<2)",
    "1<2,",
    ",1<2",
    "~",
    "!",
    "1<2~",
    "'1'<2",
]
GOOD = ["0<1", "10<999", "5<5", "0<1"]


class TestWritten(unittest.TestCase):
    def test_the_empty_lead(self):
        self.assertEqual(written([]), "")

    def test_pairs(self):
        self.assertEqual(written([(0, 1)]), "0<1")
        self.assertEqual(written([(3, 1), (0, 2)]), "3<1 0<2")
        self.assertEqual(written([(2, 2), (10, 100), (99, 9)]), "2<2 10<100 99<9")

    def test_least_and_greatest_numbers(self):
        self.assertEqual(written([(0, 0), (999, 999), (0, 999)]), "0<0 999<999 0<999")

    def test_a_list_that_is_no_lead(self):
        self.assertEqual(written([(1, 2), (1, 3), (1, 2)]), "1<2 1<3 1<2")

    def test_numbers_somewhat_beyond_are_not_refused(self):
        self.assertEqual(written([(1000, 12345)]), "1000<12345")


class TestReadLead(unittest.TestCase):
    def test_the_empty_text(self):
        self.assertEqual(read_lead(""), [])

    def test_pairs(self):
        self.assertEqual(read_lead("0<1"), [(0, 1)])
        self.assertEqual(read_lead("3<1 0<2"), [(3, 1), (0, 2)])
        self.assertEqual(read_lead("0<0 999<999 10<100"), [(0, 0), (999, 999), (10, 100)])

    def test_a_list_that_is_no_lead(self):
        self.assertEqual(read_lead("1<2 1<3 1<2"), [(1, 2), (1, 3), (1, 2)])

    def test_every_number_is_read_back(self):
        lead = [(number, 999 - number) for number in range(1000)]
        self.assertEqual(read_lead(written(lead)), lead)

    def test_lists_are_read_back(self):
        chance = random.Random(14)
        for _ in range(500):
            most = chance.choice((9, 10, 99, 999))
            lead = [(chance.randint(0, most), chance.randint(0, most)) for _ in range(chance.randint(0, 12))]
            self.assertEqual(read_lead(written(lead)), lead)

    def test_texts_are_written_back(self):
        for text in ("", "0<0", "3<1 0<2", "10<100 999<0 10<100"):
            self.assertEqual(written(read_lead(text)), text)

    def test_kinds(self):
        told = read_lead("1<2")
        self.assertIs(type(told), list)
        self.assertIs(type(told[0]), tuple)
        self.assertEqual([type(number) for number in told[0]], [int, int])
        self.assertIs(type(written([])), str)


class TestBadTexts(unittest.TestCase):
    def refused(self, text, place):
        with self.subTest(text):
            with self.assertRaises(BadText) as caught:
                read_lead(text)
            self.assertEqual(caught.exception.place, place)

    def test_wrong_words_at_any_place(self):
        for wrong in WRONG:
            for ahead in range(len(GOOD) + 1):
                self.refused(" ".join(GOOD[:ahead] + [wrong] + GOOD[ahead:]), ahead)

    def test_the_first_one_counts(self):
        for first, second in itertools.product(["", *WRONG[:12]], repeat=2):
            self.refused(" ".join(["1<2", "3<4", first, "5<6", second]), 2)

    def test_two_blanks(self):
        self.refused("0<1  1<2", 1)
        self.refused("0<1 1<2  2<3", 2)
        self.refused("0<1   1<2", 1)

    def test_a_blank_at_an_end(self):
        self.refused(" 0<1", 0)
        self.refused("0<1 ", 1)
        self.refused("0<1 1<2 ", 2)
        self.refused(" 0<1 ", 0)

    def test_nothing_but_blanks(self):
        for many in (1, 2, 3, 10):
            self.refused(" " * many, 0)

    def test_a_blank_within_a_pair(self):
        self.refused("0 <1", 0)
        self.refused("0< 1", 0)
        self.refused("0 < 1", 0)
        self.refused("3<4 0 <1", 1)

    def test_a_part_left_out(self):
        self.refused("0 1", 0)
        self.refused("0<1 1", 1)
        self.refused("0<1 <2 2<3", 1)
        self.refused("0<1 2< 2<3", 1)

    def test_each_other_sign(self):
        for code in range(ord(" "), ord("~") + 1):
            sign = chr(code)
            if sign != "%" and not sign.isdigit():
                if sign != "<":
                    self.refused(f"0<1 2{sign}3", 1)
                self.refused(f"0<1 {sign}2<3", 1)
                self.refused(f"0<1 2<{sign}3", 1)

    def test_all_words_of_up_to_five_signs(self):
        for many in range(1, 6):
            for signs in itertools.product("019<-", repeat=many):
                word = "".join(signs)
                parts = word.split("<")
                fine = len(parts) == 2 and all(part in NUMBERS for part in parts)
                if fine:
                    self.assertEqual(read_lead(word), [(int(parts[0]), int(parts[1]))])
                else:
                    self.refused(word, 0)


class TestHandedIn(unittest.TestCase):
    def test_nothing_handed_in_is_changed(self):
        lead = [(1, 2), (3, 4)]
        kept = copy.deepcopy(lead)
        written(lead)
        self.assertEqual(lead, kept)

    def test_told_lists_may_be_changed(self):
        for text in ("", "0<1", "0<1 1<0"):
            first = read_lead(text)
            wanted = list(first)
            first.append("more")
            first[0] = "other"
            self.assertEqual(read_lead(text), wanted)

    def test_what_was_handed_in_may_be_changed_later(self):
        lead = [(1, 2)]
        text = written(lead)
        lead.append((3, 4))
        self.assertEqual(text, "1<2")
        self.assertEqual(written(lead), "1<2 3<4")


class TestInterface(unittest.TestCase):
    def test_each_is_defined_in_notes(self):
        for ask in (notes.written, notes.read_lead):
            self.assertEqual(ask.__module__, "movesatonce.notes")

    def test_arguments_by_name(self):
        self.assertEqual(written(lead=[(1, 2)]), "1<2")
        self.assertEqual(read_lead(text="1<2"), [(1, 2)])


if __name__ == "__main__":
    unittest.main()
