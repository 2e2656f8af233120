"""[1]: what is handed in is left as it was and not kept; what is given back is the asker's own."""

import copy
import unittest

import helper
from eitheror.errors import Unpleased
from eitheror.houses import House, chain, displeased, follows, hanging
from eitheror.notes import read, written
from eitheror.tellings import how_many, keeping, settled, telling

WISHES = [((0, False), (1, True)), ((1, False), (2, True)), ((2, False), (0, True)), ((3, True), (3, True))]
CHOICE = [True, False, True, False]

TORN_WISHES = WISHES + [((0, False), (1, False)), ((2, True), (1, True))]

# Lists of words, some of which a choice of WISHES has, while others clash.
WORDS = [[], [(3, True)], [(3, False)], [(0, True), (1, True), (0, True)], [(2, True), (3, True), (0, False)]]


def answers(house):
    """All that can be asked of the house, with lists of its own."""
    words = helper.words_of(4)
    return copy.deepcopy([
        house.names,
        house.wishes(),
        [follows(house, word) for word in words],
        [chain(house, word, other) for word in words for other in words],
        hanging(house),
        displeased(house, list(CHOICE)),
        fields(telling(house)),
        [kept(house, list(asked)) for asked in WORDS],
        settled_or_torn(house),
        how_many(house),
        written(house),
    ])


def fields(answer):
    return (type(answer).__name__, vars(answer))


def kept(house, words):
    try:
        return fields(keeping(house, words))
    except Unpleased as refusal:
        return fields(refusal.torn)


def settled_or_torn(house):
    try:
        return settled(house)
    except Unpleased as refusal:
        return fields(refusal.torn)


def change_all(values):
    """Changes each list that stands among the values, and each list within it."""
    for value in values:
        if isinstance(value, list):
            change_all(value)
            value.reverse()
            value.append("changed")


class HandedIn(unittest.TestCase):
    def test_is_left_as_it_was(self):
        wishes = copy.deepcopy(WISHES)
        choice = list(CHOICE)
        house = House(4, wishes)
        answers(house)
        displeased(house, choice)
        self.assertEqual(wishes, WISHES)
        self.assertEqual(choice, CHOICE)
        self.assertTrue(all(type(truth) is bool for truth in choice))

    def test_wishes_are_not_kept(self):
        wishes = list(WISHES)
        house = House(4, wishes)
        before = answers(house)
        wishes.append(((0, True), (0, True)))
        self.assertEqual(answers(house), before)
        wishes[0] = ((3, False), (0, False))
        self.assertEqual(answers(house), before)
        wishes.clear()
        self.assertEqual(answers(house), before)

    def test_a_choice_is_not_kept(self):
        house = House(4, WISHES)
        choice = list(CHOICE)
        first = displeased(house, choice)
        choice.reverse()
        self.assertEqual(displeased(house, CHOICE), first)
        self.assertEqual(first, [0, 3])

    def test_words_are_left_as_they_were_and_not_kept(self):
        for asked in WORDS:
            for wishes in (WISHES, TORN_WISHES):
                house = House(4, wishes)
                words = list(asked)
                before = copy.deepcopy(kept(house, words))
                self.assertEqual(words, asked)
                given = kept(house, words)
                words.append((0, False))
                self.assertEqual(given, before)
                words.clear()
                self.assertEqual(given, before)
                self.assertEqual(kept(house, list(asked)), before)

    def test_a_house_is_left_as_it_was(self):
        for wishes in (WISHES, TORN_WISHES):
            house = House(4, wishes)
            before = copy.deepcopy(vars(house))
            answers(house)
            telling(house).holds(house)
            self.assertEqual(vars(house), before)
            self.assertEqual(house.wishes(), wishes)

    def test_two_houses_of_one_list(self):
        wishes = list(WISHES)
        first = House(4, wishes)
        wishes.pop()
        second = House(4, wishes)
        self.assertEqual((len(first.wishes()), len(second.wishes())), (4, 3))


class GivenBack(unittest.TestCase):
    def check_own(self, ask):
        house = House(4, WISHES)
        before = answers(house)
        first = copy.deepcopy(ask(house))
        given = ask(house)
        change_all([given])
        self.assertEqual(ask(house), first)
        self.assertEqual(answers(house), before)

    def test_wishes(self):
        self.check_own(lambda house: house.wishes())

    def test_follows(self):
        for word in helper.words_of(4):
            self.check_own(lambda house: follows(house, word))

    def test_chain(self):
        for word in helper.words_of(4):
            for other in helper.words_of(4):
                self.check_own(lambda house: chain(house, word, other))

    def test_hanging(self):
        self.check_own(hanging)

    def test_displeased(self):
        for choice in helper.choices_of(4):
            self.check_own(lambda house: displeased(house, choice))

    def test_settled(self):
        self.check_own(settled)

    def test_wishes_of_a_house_that_was_read(self):
        self.check_own(lambda house: read(written(house)).wishes())

    def test_fields_of_what_is_told(self):
        for wishes in (WISHES, TORN_WISHES):
            house = House(4, wishes)
            self.check_own_fields(house, lambda: telling(house))

    def test_fields_of_what_is_told_of_some_words(self):
        house = House(4, WISHES)
        for words in WORDS:
            self.check_own_fields(house, lambda: keeping(house, list(words)))

    def test_fields_of_a_refusal(self):
        house = House(4, TORN_WISHES)
        self.check_own_fields(house, lambda: self.torn_of(lambda: settled(house)))
        for words in WORDS:
            self.check_own_fields(house, lambda: self.torn_of(lambda: keeping(house, list(words))))

    def torn_of(self, ask):
        with self.assertRaises(Unpleased) as taken:
            ask()
        return taken.exception.torn

    def check_own_fields(self, house, ask):
        before = answers(house)
        first = copy.deepcopy(fields(ask()))
        given, untouched = ask(), ask()
        change_all(vars(given).values())
        self.assertNotEqual(fields(given), first)
        self.assertEqual(fields(untouched), first)
        self.assertEqual(fields(ask()), first)
        self.assertEqual(answers(house), before)
        self.assertIs(untouched.holds(house), True)

    def test_the_fields_of_one_answer_are_lists_of_their_own(self):
        torn = telling(House(4, TORN_WISHES))
        torn.there.clear()
        self.assertNotEqual(torn.back, [])
        clash = keeping(House(4, WISHES), [(0, True), (0, False)])
        clash.words.clear()
        self.assertNotEqual(clash.links, [])

    def test_each_is_a_list(self):
        house = House(4, WISHES)
        given = [house.wishes(), follows(house, (0, True)), hanging(house), displeased(house, CHOICE)]
        given.append(chain(house, (0, True), (2, True)))
        given.append(chain(house, (0, True), (3, True)))
        given.append(settled(house))
        for answer in given + hanging(house) + settled(house):
            self.assertIs(type(answer), list)


if __name__ == "__main__":
    unittest.main()
