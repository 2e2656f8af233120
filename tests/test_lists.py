"""[1]: what is handed in is left as it was and not kept; what is given back is the asker's own."""

import copy
import unittest

import helper
from eitheror.houses import House, chain, displeased, follows, hanging

WISHES = [((0, False), (1, True)), ((1, False), (2, True)), ((2, False), (0, True)), ((3, True), (3, True))]
CHOICE = [True, False, True, False]


def answers(house):
    """All that can be asked of the house, with lists of its own."""
    words = helper.words_of(4)
    return copy.deepcopy([
        house.names,
        house.wishes(),
        [follows(house, word) for word in words],
        [chain(house, word, other) for word in words for other in words],
        hanging(house),
        displeased(house, list(CHOICE)),
    ])


class HandedIn(unittest.TestCase):
    def test_is_left_as_it_was(self):
        wishes = copy.deepcopy(WISHES)
        choice = list(CHOICE)
        house = House(4, wishes)
        answers(house)
        displeased(house, choice)
        self.assertEqual(wishes, WISHES)
        self.assertEqual(choice, CHOICE)
        self.assertTrue(all(type(truth) is bool for truth in choice))

    def test_wishes_are_not_kept(self):
        wishes = list(WISHES)
        house = House(4, wishes)
        before = answers(house)
        wishes.append(((0, True), (0, True)))
        self.assertEqual(answers(house), before)
        wishes[0] = ((3, False), (0, False))
        self.assertEqual(answers(house), before)
        wishes.clear()
        self.assertEqual(answers(house), before)

    def test_a_choice_is_not_kept(self):
        house = House(4, WISHES)
        choice = list(CHOICE)
        first = displeased(house, choice)
        choice.reverse()
        self.assertEqual(displeased(house, CHOICE), first)
        self.assertEqual(first, [0, 3])

    def test_two_houses_of_one_list(self):
        wishes = list(WISHES)
        first = House(4, wishes)
        wishes.pop()
        second = House(4, wishes)
        self.assertEqual((len(first.wishes()), len(second.wishes())), (4, 3))


class GivenBack(unittest.TestCase):
    def check_own(self, ask):
        house = House(4, WISHES)
        before = answers(house)
        first = copy.deepcopy(ask(house))
        given = ask(house)
        for inner in given:
            if isinstance(inner, list):
                inner.append("changed")
        given.reverse()
        given.append("changed")
        self.assertEqual(ask(house), first)
        self.assertEqual(answers(house), before)

    def test_wishes(self):
        self.check_own(lambda house: house.wishes())

    def test_follows(self):
        for word in helper.words_of(4):
            self.check_own(lambda house: follows(house, word))

    def test_chain(self):
        for word in helper.words_of(4):
            for other in helper.words_of(4):
                self.check_own(lambda house: chain(house, word, other))

    def test_hanging(self):
        self.check_own(hanging)

    def test_displeased(self):
        for choice in helper.choices_of(4):
            self.check_own(lambda house: displeased(house, choice))

    def test_each_is_a_list(self):
        house = House(4, WISHES)
        given = [house.wishes(), follows(house, (0, True)), hanging(house), displeased(house, CHOICE)]
        given.append(chain(house, (0, True), (2, True)))
        given.append(chain(house, (0, True), (3, True)))
        for answer in given + hanging(house):
            self.assertIs(type(answer), list)


if __name__ == "__main__":
    unittest.main()
