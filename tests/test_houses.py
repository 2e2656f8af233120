import unittest

import helper
from eitheror.houses import House, chain, displeased, follows, hanging

NO_0, YES_0 = (0, False), (0, True)
NO_1, YES_1 = (1, False), (1, True)
NO_2, YES_2 = (2, False), (2, True)


class WhatAHouseIs(unittest.TestCase):
    def test_names_and_wishes_are_as_handed_in(self):
        wishes = [(YES_0, NO_1), (NO_2, NO_2), (YES_0, NO_1)]
        house = House(3, wishes)
        self.assertEqual(house.names, 3)
        self.assertEqual(house.wishes(), [(YES_0, NO_1), (NO_2, NO_2), (YES_0, NO_1)])

    def test_wishes_are_pairs_that_are_tuples_of_numbers_and_truths(self):
        for wish in House(2, [(YES_0, NO_1), (YES_1, YES_1)]).wishes():
            self.assertIs(type(wish), tuple)
            for word in wish:
                self.assertIs(type(word), tuple)
                self.assertIs(type(word[0]), int)
                self.assertIs(type(word[1]), bool)

    def test_arguments_are_called_as_the_interface_tells(self):
        house = House(names=2, wishes=[(YES_0, YES_1)])
        self.assertEqual(follows(house=house, word=NO_0), [NO_0, YES_1])
        self.assertEqual(chain(house=house, word=NO_0, other=YES_1), [NO_0, YES_1])
        self.assertEqual(hanging(house=house), [[NO_0], [YES_0], [NO_1], [YES_1]])
        self.assertEqual(displeased(house=house, choice=[False, False]), [0])

    def test_each_number_of_names_and_of_wishes(self):
        for names in range(1, 9):
            for count in range(25):
                wishes = [((0, True), (names - 1, False))] * count
                house = House(names, wishes)
                self.assertEqual((house.names, house.wishes()), (names, wishes))

    def test_each_wish_of_one_and_of_eight_names(self):
        for names in (1, 8):
            for wish in helper.wishes_of(names):
                self.assertEqual(House(names, [wish]).wishes(), [wish])

    def test_houses_do_not_share_what_they_keep(self):
        one = House(1, [(YES_0, YES_0)])
        two = House(2, [(NO_0, YES_1)])
        self.assertEqual((one.names, one.wishes()), (1, [(YES_0, YES_0)]))
        self.assertEqual((two.names, two.wishes()), (2, [(NO_0, YES_1)]))


class Follows(unittest.TestCase):
    def test_without_wishes_only_the_word_itself(self):
        for names in (1, 8):
            for word in helper.words_of(names):
                self.assertEqual(follows(House(names, []), word), [word])

    def test_a_wish_leads_from_each_opposite_to_the_other_word(self):
        house = House(2, [(YES_0, YES_1)])
        self.assertEqual(follows(house, NO_0), [NO_0, YES_1])
        self.assertEqual(follows(house, NO_1), [YES_0, NO_1])
        self.assertEqual(follows(house, YES_0), [YES_0])
        self.assertEqual(follows(house, YES_1), [YES_1])

    def test_the_same_word_twice(self):
        house = House(1, [(YES_0, YES_0)])
        self.assertEqual(follows(house, NO_0), [NO_0, YES_0])
        self.assertEqual(follows(house, YES_0), [YES_0])

    def test_a_word_and_its_opposite(self):
        house = House(1, [(YES_0, NO_0)])
        self.assertEqual(follows(house, NO_0), [NO_0])
        self.assertEqual(follows(house, YES_0), [YES_0])

    def test_in_the_order_of_tuples_not_of_the_way(self):
        house = House(3, [(NO_2, YES_1), (NO_1, NO_0), (YES_0, YES_2)])
        self.assertEqual(follows(house, YES_2), [NO_0, YES_1, YES_2])
        self.assertEqual(follows(house, NO_2), [YES_0, NO_1, NO_2])

    def test_a_long_way(self):
        house = House(8, helper.ladder(8))
        self.assertEqual(follows(house, YES_0), [(name, True) for name in range(8)])
        self.assertEqual(follows(house, (7, False)), [(name, False) for name in range(8)])

    def test_the_words_to_which_chains_lead(self):
        for names, wishes in list(helper.small_houses()) + list(helper.mixed_houses()):
            house = House(names, wishes)
            lengths = helper.chain_lengths(names, wishes)
            for word in helper.words_of(names):
                wanted = [other for other in helper.words_of(names) if (word, other) in lengths]
                self.assertEqual(follows(house, word), wanted, (names, wishes, word))


class Chain(unittest.TestCase):
    def test_from_a_word_to_itself(self):
        for wishes in ([], [(YES_0, YES_0)], [(YES_0, NO_0)], [(YES_0, YES_0), (NO_0, NO_0)]):
            for word in (NO_0, YES_0):
                self.assertEqual(chain(House(1, wishes), word, word), [word])

    def test_none(self):
        house = House(2, [(YES_0, YES_1)])
        self.assertEqual(chain(house, YES_0, YES_1), [])
        self.assertEqual(chain(house, NO_0, NO_1), [])
        self.assertEqual(chain(house, YES_0, NO_0), [])

    def test_one_step(self):
        house = House(2, [(YES_0, YES_1)])
        self.assertEqual(chain(house, NO_0, YES_1), [NO_0, YES_1])
        self.assertEqual(chain(house, NO_1, YES_0), [NO_1, YES_0])

    def test_to_the_opposite(self):
        self.assertEqual(chain(House(1, [(YES_0, YES_0)]), NO_0, YES_0), [NO_0, YES_0])

    def test_the_shorter_of_two_ways(self):
        long_way = [(NO_0, YES_1), (NO_1, YES_2)]
        for wishes in (long_way + [(NO_0, YES_2)], [(YES_2, NO_0)] + long_way):
            self.assertEqual(chain(House(3, wishes), YES_0, YES_2), [YES_0, YES_2])

    def test_the_longest_way(self):
        house = House(8, helper.ladder(8))
        self.assertEqual(chain(house, YES_0, (7, True)), [(name, True) for name in range(8)])
        self.assertEqual(chain(house, (7, False), NO_0), [(name, False) for name in range(7, -1, -1)])
        self.assertEqual(chain(house, (7, True), YES_0), [])

    def test_a_way_through_all_words(self):
        steps = helper.ladder(8) + [((7, False), (7, False))]
        house = House(8, steps)
        yes = [(name, True) for name in range(8)]
        no = [(name, False) for name in range(7, -1, -1)]
        self.assertEqual(chain(house, YES_0, NO_0), yes + no)

    def test_shortest_and_from_the_one_to_the_other(self):
        for names, wishes in list(helper.small_houses()) + list(helper.mixed_houses()):
            house = House(names, wishes)
            lengths = helper.chain_lengths(names, wishes)
            for word in helper.words_of(names):
                for other in helper.words_of(names):
                    self.check(house, word, other, wishes, lengths)

    def check(self, house, word, other, wishes, lengths):
        links = chain(house, word, other)
        told = (house.names, wishes, word, other, links)
        self.assertEqual(len(links), lengths.get((word, other), 0), told)
        if links:
            self.assertEqual((links[0], links[-1]), (word, other), told)
            self.assertTrue(helper.is_chain(wishes, links), told)


class Hanging(unittest.TestCase):
    def test_without_wishes_each_word_by_itself(self):
        for names in (1, 8):
            self.assertEqual(hanging(House(names, [])), [[word] for word in helper.words_of(names)])

    def test_a_way_there_and_none_back(self):
        self.assertEqual(hanging(House(2, [(NO_0, YES_1)])), [[NO_0], [YES_0], [NO_1], [YES_1]])

    def test_words_that_hang_on_one_another(self):
        house = House(3, [(NO_0, NO_2), (YES_0, YES_2)])
        self.assertEqual(hanging(house), [[NO_0, YES_2], [YES_0, NO_2], [NO_1], [YES_1]])

    def test_a_word_on_its_opposite(self):
        self.assertEqual(hanging(House(1, [(YES_0, YES_0), (NO_0, NO_0)])), [[NO_0, YES_0]])
        self.assertEqual(hanging(House(1, [(YES_0, YES_0)])), [[NO_0], [YES_0]])
        self.assertEqual(hanging(House(1, [(YES_0, NO_0)])), [[NO_0], [YES_0]])

    def test_a_ring_of_all_names(self):
        house = House(8, helper.ring(8))
        self.assertEqual(hanging(house), [[(name, truth) for name in range(8)] for truth in (False, True)])

    def test_those_together_that_follow_from_each_other(self):
        for names, wishes in list(helper.small_houses()) + list(helper.mixed_houses()):
            words = helper.words_of(names)
            lengths = helper.chain_lengths(names, wishes)
            groups = hanging(House(names, wishes))
            self.assertEqual(sorted(sum(groups, [])), words, (names, wishes))
            self.assertEqual([group[0] for group in groups], sorted(group[0] for group in groups), (names, wishes))
            for group in groups:
                word = group[0]
                wanted = [other for other in words if (word, other) in lengths and (other, word) in lengths]
                self.assertEqual(group, wanted, (names, wishes))


class Displeased(unittest.TestCase):
    def test_without_wishes_none(self):
        for names in (1, 8):
            for choice in helper.choices_of(names):
                self.assertEqual(displeased(House(names, []), choice), [])

    def test_one_word_is_enough(self):
        house = House(2, [(YES_0, NO_1)])
        self.assertEqual(displeased(house, [True, False]), [])
        self.assertEqual(displeased(house, [True, True]), [])
        self.assertEqual(displeased(house, [False, False]), [])
        self.assertEqual(displeased(house, [False, True]), [0])

    def test_the_same_word_twice(self):
        house = House(1, [(YES_0, YES_0), (NO_0, NO_0)])
        self.assertEqual(displeased(house, [True]), [1])
        self.assertEqual(displeased(house, [False]), [0])

    def test_a_word_and_its_opposite_please_each_choice(self):
        house = House(1, [(YES_0, NO_0), (NO_0, YES_0)])
        self.assertEqual(displeased(house, [True]), [])
        self.assertEqual(displeased(house, [False]), [])

    def test_the_same_wish_several_times(self):
        house = House(2, [(YES_0, YES_0), (NO_1, YES_0), (YES_0, YES_0)])
        self.assertEqual(displeased(house, [False, False]), [0, 2])
        self.assertEqual(displeased(house, [False, True]), [0, 1, 2])

    def test_all_24_places(self):
        house = House(8, [((7, True), (7, True))] * 24)
        self.assertEqual(displeased(house, [True] * 7 + [False]), list(range(24)))
        self.assertEqual(displeased(house, [False] * 7 + [True]), [])

    def test_the_places_of_the_wishes_that_it_does_not_please(self):
        for names, wishes in list(helper.small_houses()) + list(helper.mixed_houses()):
            house = House(names, wishes)
            for choice in helper.choices_of(names)[::1 if names < 5 else 7]:
                wanted = [place for place, wish in enumerate(wishes) if not helper.pleased_by(choice, wish)]
                self.assertEqual(displeased(house, choice), wanted, (names, wishes, choice))


if __name__ == "__main__":
    unittest.main()
