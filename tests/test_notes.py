"""[7]: houses as texts, and which part of a text is refused."""

import re
import unittest

import helper
from eitheror.errors import BadText
from eitheror.houses import House
from eitheror.notes import read, written

SIGNS = [chr(code) for code in range(ord(" "), ord("~") + 1)] + ["\t", "\n"]

NO_COUNTS = [
    "", " ", "0", "9", "10", "12", "33", "88", "03", "003", "3 ", " 3", "3\t", "\t3", "3\n", "\n3", "3;", ";3", ";",
    "3,", "3.", "3.0", "+3", "-3", "-1", "a", "x", "three", "3+", "3-", "0+", "0+1-", "3 3", "3:", "/", ":", "{",
]

# No wishes of a house of three names.
NO_WISHES = [
    "", " ", "    ", "0", "3", "0+", "0+1", "+1-", "0+1-2", "0+1-2+", "0+1-+", "0+1--", "0++1-", "00+1-", "0+11-",
    "0+1-0+1-", "01", "01+-", "+0-1", "0+-1", "0-+1", "3+1-", "0+3-", "7+1-", "0+7-", "8+1-", "0+8-", "9-9-", "3-3-",
    "a+1-", "0+a-", "0*1-", "0+1~", "0+1 ", "0 1-", "0,1-", "0+1.", "0?1?", "++++", "----", "0000", "-1+0", "-0+1",
    " 0+1-", "0+1- ", "0+ 1-", "0 +1-", "0+1 -", "  0+1-", "\t0+1-", "0+1-\t", "0+\t1-", "\n0+1-", "0+1-\n", "0+\n1-",
    "0+;1-", "0+1-;", ";0+1-", ";", "0+,1-", "0+1-,2-2-", "0+1-;2-2-", "0+1-;\t2-2-", "0+1-;\n2-2-", "0+1-,", "0t1f",
]


def place_wanted(text):
    """The place that the document asks for, None where the text is a house as it is written."""
    parts = re.split("; ", text)
    if not re.fullmatch("[1-8]", parts[0]):
        return 0
    word = "[" + "01234567"[:int(parts[0])] + "][+-]"
    for place, part in enumerate(parts):
        if place > 0 and not re.fullmatch(word + word, part):
            return place
    return len(parts) if len(parts) > 25 else None


class Notes(unittest.TestCase):
    def refused(self, text, place):
        try:
            house = read(text)
        except Exception as refusal:
            self.assertIs(type(refusal), BadText, repr(text))
            self.assertEqual(refusal.place, place, repr(text))
            self.assertIs(type(refusal.place), int, repr(text))
        else:
            self.fail(f"{text!r} was read as {house.names}, {house.wishes()}")

    def taken(self, text, names, wishes):
        house = read(text)
        self.assertIs(type(house), House)
        self.assertEqual((house.names, house.wishes()), (names, wishes), repr(text))
        self.assertIs(type(house.names), int)
        for word in [word for wish in house.wishes() for word in wish]:
            self.assertEqual((type(word), type(word[0]), type(word[1])), (tuple, int, bool))


class Written(Notes):
    def test_to_the_sign(self):
        house = House(3, [((0, True), (1, False)), ((2, False), (2, False))])
        self.assertEqual(written(house), "3; 0+1-; 2-2-")
        self.assertEqual(written(house=house), "3; 0+1-; 2-2-")
        self.assertIs(type(written(house)), str)

    def test_without_wishes(self):
        for names in range(1, 9):
            self.assertEqual(written(House(names, [])), str(names))

    def test_each_word(self):
        for name in range(8):
            for sign, truth in (("+", True), ("-", False)):
                house = House(8, [((name, truth), (0, True)), ((0, False), (name, truth))])
                self.assertEqual(written(house), f"8; {name}{sign}0+; 0-{name}{sign}")

    def test_24_wishes(self):
        house = House(8, [((7, False), (0, True))] * 24)
        self.assertEqual(written(house), "8" + "; 7-0+" * 24)

    def test_wishes_in_their_order_and_words_in_theirs(self):
        house = House(2, [((1, True), (0, True)), ((0, True), (1, True)), ((1, True), (0, True))])
        self.assertEqual(written(house), "2; 1+0+; 0+1+; 1+0+")


class Read(Notes):
    def test_what_is_written(self):
        self.taken("3; 0+1-; 2-2-", 3, [((0, True), (1, False)), ((2, False), (2, False))])
        self.taken("2; 1+0+; 0+1+; 1+0+", 2, [((1, True), (0, True)), ((0, True), (1, True)), ((1, True), (0, True))])
        self.assertEqual(read(text="1; 0+0-").wishes(), [((0, True), (0, False))])

    def test_without_wishes(self):
        for names in range(1, 9):
            self.taken(str(names), names, [])

    def test_24_wishes(self):
        self.taken("8" + "; 7-0+" * 24, 8, [((7, False), (0, True))] * 24)

    def test_each_house_that_is_written_is_read_again(self):
        for houses in (helper.small_houses, helper.mixed_houses, helper.pleased_houses, helper.torn_houses):
            for names, wishes in houses():
                text = written(House(names, wishes))
                self.assertIsNone(place_wanted(text))
                self.taken(text, names, wishes)
                self.assertEqual(written(read(text)), text)

    def test_each_wish_of_eight_names(self):
        for wish in helper.wishes_of(8):
            self.taken(written(House(8, [wish])), 8, [wish])


class Refused(Notes):
    def test_the_empty_text(self):
        self.refused("", 0)

    def test_what_is_no_text(self):
        wrong = [None, True, False, 0, 3, 1.5, b"3", [], ["3"], ("3",), {}, {"3": "3"}, House(3, []), [0]]
        for value in wrong:
            self.refused(value, 0)

    def test_a_wrong_first_part(self):
        for part in NO_COUNTS:
            for behind in ("", "; 0+0-", "; 0+0-; 0-0-", "; wrong", "; ", "; 0+0-" * 25):
                self.refused(part + behind, 0)

    def test_a_wrong_part_further_on(self):
        for part in NO_WISHES:
            for ahead in (0, 1, 2, 22, 23):
                for behind in ("", "; 1+2-", "; 0+0+; wrong", "; ", "; 3+3+"):
                    self.refused("3" + "; 0+2-" * ahead + "; " + part + behind, ahead + 1)

    def test_figures_of_names_that_there_are_not(self):
        for names in range(1, 9):
            for figure in range(10):
                for part in (f"{figure}+0-", f"0+{figure}-", f"{figure}-{figure}-"):
                    text = f"{names}; 0-0-; {part}; 0+0+"
                    if figure < names:
                        self.assertEqual(written(read(text)), text)
                    else:
                        self.refused(text, 2)

    def test_another_sign_between(self):
        for text, place in (
                ("3;0+1-", 0), ("3, 0+1-", 0), ("3;\t0+1-", 0), ("3;\n0+1-", 0), ("3 0+1-", 0), ("3\n0+1-", 0),
                ("3 ; 0+1-", 0), ("3;  0+1-", 1), ("3; 0+1-;2-2-", 1), ("3; 0+1-, 2-2-", 1), ("3; 0+1- 2-2-", 1),
                ("3; 0+1- ; 2-2-", 1), ("3; 0+1-;  2-2-", 2), ("3; 0+1-;\n2-2-", 1), ("3; 0+1-2-2-", 1),
                ("3;; 0+1-", 0), ("3; ; 0+1-", 1), ("3; 0+1-; ; 2-2-", 2), ("3; 0+1-;; 2-2-", 1)):
            self.refused(text, place)

    def test_something_at_either_end(self):
        for text, place in (
                ("3;", 0), ("3; ", 1), ("3;  ", 1), ("3; ; ", 1), ("; 3", 0), (" 3", 0), ("3\n", 0), ("; ", 0), (";", 0),
                ("3; 0+1-;", 1), ("3; 0+1-; ", 2), ("3; 0+1- ", 1), ("3; 0+1-\n", 1), ("\n3; 0+1-", 0), ("\t", 0)):
            self.refused(text, place)

    def test_the_first_of_several_wrong_parts(self):
        self.refused("9; 0+", 0)
        self.refused("3; 0+1-; 3+3+; 0+; ", 2)
        self.refused("3; ; 9+9+", 1)

    def test_more_than_24_wishes(self):
        for count in (25, 26, 48, 300):
            self.refused("3" + "; 0+1-" * count, count + 1)

    def test_more_than_24_wishes_of_which_one_is_wrong(self):
        for place in (1, 2, 13, 24, 25, 26, 27):
            for count in (27, 28, 60):
                for wrong in ("", "3+0+", "0+1-2", " 0+1-"):
                    parts = ["3"] + ["0+1-"] * count
                    parts[place] = wrong
                    self.refused("; ".join(parts), place)
        self.refused("3" + "; 0+1-" * 24 + "; 0+3-", 25)
        self.refused("3" + "; 0+1-" * 25 + "; ", 26)
        self.refused("0" + "; 0+1-" * 25, 0)

    def test_each_text_with_one_sign_changed_put_in_or_left_out(self):
        for text in ("", "1", "8; 7+0-", "3; 0+1-; 2-2-", "2" + "; 0+1-" * 24):
            for place in range(min(len(text), 20) + 1):
                self.as_wanted(text[:place] + text[place + 1:])
                for sign in SIGNS:
                    self.as_wanted(text[:place] + sign + text[place:])
                    self.as_wanted(text[:place] + sign + text[place + 1:])

    def as_wanted(self, text):
        place = place_wanted(text)
        if place is None:
            self.assertEqual(written(read(text)), text)
        else:
            self.refused(text, place)


if __name__ == "__main__":
    unittest.main()
