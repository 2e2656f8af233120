"""Wrong inputs, each refused with its error itself, not with another one under or above it."""

import copy
import unittest

from eitheror.errors import BadChoice, BadHouse, BadWord
from eitheror.houses import House, chain, displeased, follows
from eitheror.tellings import keeping

WORD = (0, True)

HUGE = 10 ** 40

# What is no word of a house of two names.
NO_WORDS = [
    None, True, 0, 1.5, "0+", "01", b"01", {0: True, 1: False}, {0, 1},
    [0, True], [], (), (0,), (True,), (0, True, False), (0, True, True),
    (2, True), (2, False), (-1, True), (-2, False), (HUGE, True), (-HUGE, True),
    (True, True), (False, False), (None, True), ("0", True), (0.0, True), ([0], True), ((0,), True),
    (0, 0), (0, 1), (1, 1), (0, None), (0, "True"), (0, ""), (0, 1.0), (0, [True]), (0, (True,)),
    (True, 0), ((0, True), (1, True)),
]


def words_beyond(names):
    return [(name, truth) for name in (-1, -names, names, names + 1) for truth in (False, True)]


class Refusals(unittest.TestCase):
    def refused(self, error, ask, handed_in):
        before = copy.deepcopy(handed_in)
        try:
            answer = ask(handed_in)
        except Exception as refusal:
            self.assertIs(type(refusal), error, repr(before))
        else:
            self.fail(f"{before!r} was answered with {answer!r}")
        self.assertEqual(handed_in, before)


class NoHouse(Refusals):
    def test_names_that_are_no_number(self):
        for names in (True, False, None, "1", 1.0, 2.5, [1], (1,), {1: 1}, b"1", 1j):
            self.refused(BadHouse, lambda names: House(names, []), names)

    def test_names_out_of_bounds(self):
        for names in (0, 9, 10, -1, -8, 100, HUGE, -HUGE):
            self.refused(BadHouse, lambda names: House(names, []), names)

    def test_wishes_that_are_no_list(self):
        wish = (WORD, WORD)
        for wishes in (None, True, 0, 3, "", "0+0+", (), (wish,), wish, {}, {wish: wish}, {wish}, b"", 1.5):
            self.refused(BadHouse, lambda wishes: House(2, wishes), wishes)

    def test_more_than_24_wishes(self):
        for count in (25, 26, 48, 1000):
            self.refused(BadHouse, lambda wishes: House(2, wishes), [(WORD, WORD)] * count)
        self.assertEqual(len(House(2, [(WORD, WORD)] * 24).wishes()), 24)

    def test_wishes_that_are_no_pair(self):
        wrong = [None, True, 0, "0+0+", "ab", 1.5, [], (), (WORD,), (WORD, WORD, WORD), [WORD, WORD], WORD]
        wrong.extend([{WORD: WORD}, {0: WORD, 1: WORD}, {WORD, (1, True)}, b"ab"])
        for wish in wrong:
            self.wish_refused(2, wish)

    def test_wishes_of_no_words(self):
        for wrong in NO_WORDS:
            self.wish_refused(2, (wrong, WORD))
            self.wish_refused(2, (WORD, wrong))
            self.wish_refused(2, (wrong, wrong))

    def test_wishes_of_names_that_the_house_does_not_have(self):
        for names in range(1, 9):
            for word in words_beyond(names):
                self.wish_refused(names, (WORD, word))
                self.wish_refused(names, (word, WORD))

    def wish_refused(self, names, wrong):
        right = (WORD, (names - 1, False))
        for wishes in ([wrong], [wrong, right], [right] * 23 + [wrong]):
            self.refused(BadHouse, lambda wishes: House(names, wishes), wishes)


class NoWord(Refusals):
    def test_no_words(self):
        for wishes in ([], [(WORD, (1, False))]):
            for wrong in NO_WORDS:
                self.word_refused(House(2, wishes), wrong)

    def test_names_that_the_house_does_not_have(self):
        for names in range(1, 9):
            for word in words_beyond(names):
                self.word_refused(House(names, []), word)

    def word_refused(self, house, wrong):
        self.refused(BadWord, lambda word: follows(house, word), wrong)
        self.refused(BadWord, lambda word: chain(house, word, WORD), wrong)
        self.refused(BadWord, lambda word: chain(house, WORD, word), wrong)
        self.refused(BadWord, lambda word: chain(house, word, word), wrong)


class NoWords(Refusals):
    def setUp(self):
        # No choice pleases the last one.
        wishes = [[], [(WORD, (1, False))], [(WORD, WORD), ((0, False), (0, False))]]
        self.houses = [House(2, given) for given in wishes]

    def test_no_list(self):
        wrong = [None, True, 0, 2, "", "0+", (), (WORD,), WORD, (WORD, WORD), {}, {WORD: True}, {WORD}, b"", 1.5]
        for words in wrong:
            self.words_refused(words)

    def test_a_list_with_something_that_is_no_word(self):
        for wrong in NO_WORDS + [WORD + WORD, [WORD], (WORD,)]:
            for words in ([wrong], [wrong, WORD], [WORD, wrong], [WORD, (0, False), wrong, WORD]):
                self.words_refused(words)

    def test_names_that_the_house_does_not_have(self):
        for names in range(1, 9):
            for word in words_beyond(names):
                for wishes in ([], [(WORD, WORD), ((0, False), (0, False))]):
                    house = House(names, wishes)
                    self.refused(BadWord, lambda words: keeping(house, words), [WORD, word])

    def words_refused(self, wrong):
        for house in self.houses:
            self.refused(BadWord, lambda words: keeping(house, words), wrong)


class NoChoice(Refusals):
    def test_no_list(self):
        for wrong in (None, True, 0, 2, "", "10", (), (True, False), {}, {0: True, 1: False}, {True, False}, b"10", 1.5):
            self.choice_refused(2, wrong)

    def test_too_short_or_too_long(self):
        for names in range(1, 9):
            for length in (0, names - 1, names + 1, 24):
                self.choice_refused(names, [True] * length)
                self.choice_refused(names, [False] * length)

    def test_something_that_is_no_truth(self):
        for wrong in (0, 1, None, "", "True", 1.0, [True], (True,), (0, True), {}):
            self.choice_refused(1, [wrong])
            self.choice_refused(2, [wrong, True])
            self.choice_refused(2, [True, wrong])
            self.choice_refused(8, [False] * 7 + [wrong])

    def choice_refused(self, names, wrong):
        last = (names - 1, False)
        for wishes in ([], [(WORD, WORD)], [(last, last)]):
            self.refused(BadChoice, lambda choice: displeased(House(names, wishes), choice), wrong)


if __name__ == "__main__":
    unittest.main()
