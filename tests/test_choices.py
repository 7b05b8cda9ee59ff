"""Points [2], [3] and [6]: choices and their numbers."""

import unittest
from itertools import product

from eitherslack.choices import choice_at, choice_number, choices
from eitherslack.errors import NoChoice, SlackError

PLACES = range(1, 6)


def wanted_choices(many, least):
    texts = ["".join(signs) for signs in product("10", repeat=many)]
    return sorted(text for text in texts if text.count("1") >= least)


class ChoicesTest(unittest.TestCase):
    def test_each_number_of_places_and_least(self):
        for many in PLACES:
            for least in range(many + 2):
                with self.subTest(many=many, least=least):
                    answer = choices(many, least)
                    self.assertIs(type(answer), list)
                    self.assertEqual(answer, wanted_choices(many, least))

    def test_without_a_least_number(self):
        for many in PLACES:
            self.assertEqual(choices(many), wanted_choices(many, 0))
            self.assertEqual(len(choices(many)), 2 ** many)

    def test_some_by_hand(self):
        self.assertEqual(choices(1), ["0", "1"])
        self.assertEqual(choices(2), ["00", "01", "10", "11"])
        self.assertEqual(choices(3, 2), ["011", "101", "110", "111"])
        self.assertEqual(choices(5, 5), ["11111"])
        self.assertEqual(choices(4, 5), [])

    def test_a_great_least_number(self):
        for many in PLACES:
            self.assertEqual(choices(many, 10 ** 999), [])

    def test_by_names(self):
        self.assertEqual(choices(many=2), ["00", "01", "10", "11"])
        self.assertEqual(choices(many=2, least=1), ["01", "10", "11"])
        self.assertEqual(choices(least=2, many=2), ["11"])
        self.assertEqual(choices(2, least=1), ["01", "10", "11"])

    def test_a_changed_list_alters_nothing_told_later(self):
        first = choices(3)
        self.assertIsNot(choices(3), first)
        first.reverse()
        first.append("2")
        first[0] = ""
        self.assertEqual(choices(3), wanted_choices(3, 0))
        self.assertEqual(choices(3, 1), wanted_choices(3, 1))
        self.assertEqual(choice_number("110"), 6)
        self.assertEqual(choice_at(6, 3), "110")
        choices(3, 2).clear()
        self.assertEqual(choices(3, 2), ["011", "101", "110", "111"])


class NumberTest(unittest.TestCase):
    def test_each_choice_leads_to_its_number_and_back(self):
        for many in PLACES:
            for number, choice in enumerate(wanted_choices(many, 0)):
                with self.subTest(choice=choice):
                    self.assertEqual(choice_number(choice), number)
                    self.assertIs(type(choice_number(choice)), int)
                    self.assertEqual(choice_at(number, many), choice)
                    self.assertIs(type(choice_at(number, many)), str)

    def test_by_names(self):
        self.assertEqual(choice_number(choice="0110"), 6)
        self.assertEqual(choice_at(number=6, many=4), "0110")
        self.assertEqual(choice_at(many=5, number=6), "00110")
        self.assertEqual(choice_at(6, many=3), "110")

    def test_asked_again_it_is_answered_the_same(self):
        self.assertEqual(choice_number("101"), choice_number("101"))
        self.assertEqual(choice_at(5, 3), choice_at(5, 3))


class RefusedTest(unittest.TestCase):
    def refused_text(self, text):
        with self.subTest(text=text[:20]):
            with self.assertRaises(NoChoice) as caught:
                choice_number(text)
            self.assertIsInstance(caught.exception, SlackError)
            with self.assertRaises(NoChoice):
                choice_number(choice=text)

    def test_the_empty_text(self):
        self.refused_text("")

    def test_texts_of_more_than_five_signs(self):
        for text in ("000000", "111111", "101010", "0000001", "01" * 150, "1" * 2000):
            self.refused_text(text)

    def test_texts_with_another_sign(self):
        for sign in ("2", "9", "a", " ", "-", "+", "_", "\n", "\u0661", "\uff11"):
            for many in PLACES:
                for at in range(many):
                    self.refused_text("1" * at + sign + "0" * (many - at - 1))
        for text in (" 101", "101 ", "0b1", "1_0", "-1", "+1", "1\n", "x" * 9):
            self.refused_text(text)

    def test_numbers_without_a_choice(self):
        for many in PLACES:
            last = 2 ** many - 1
            for number in (-1, -2, -last, -last - 1, -10 ** 999, last + 1, last + 2, 32, 10 ** 999):
                with self.subTest(many=many, number=str(number)[:9]):
                    with self.assertRaises(NoChoice):
                        choice_at(number, many)
                    with self.assertRaises(NoChoice):
                        choice_at(many=many, number=number)

    def test_what_is_refused_changes_nothing(self):
        before = choices(3), choice_number("011"), choice_at(3, 3)
        with self.assertRaises(NoChoice):
            choice_number("012")
        with self.assertRaises(NoChoice):
            choice_at(8, 3)
        self.assertEqual((choices(3), choice_number("011"), choice_at(3, 3)), before)


if __name__ == "__main__":
    unittest.main()
