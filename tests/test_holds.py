"""Answers made by hand, and of which houses they hold."""

import unittest

import helper
from eitheror.houses import House
from eitheror.tellings import Clash, Pleased, Torn, keeping, telling

NO_0, YES_0 = (0, False), (0, True)
NO_1, YES_1 = (1, False), (1, True)
NO_2, YES_2 = (2, False), (2, True)

# From yes of 0 by yes of 1 to no of 0, and from there by no of 2 back.
TORN_WISHES = [(NO_0, YES_1), (NO_1, NO_0), (YES_0, NO_2), (YES_2, YES_0)]
THERE = [YES_0, YES_1, NO_0]
BACK = [NO_0, NO_2, YES_0]


class Holds(unittest.TestCase):
    def holds(self, answer, house):
        self.assertIs(answer.holds(house), True, vars(answer))

    def fails(self, answer, house):
        self.assertIs(answer.holds(house), False, vars(answer))


class PleasedHolds(Holds):
    def test_just_if_it_pleases_all(self):
        house = House(2, [(YES_0, YES_1), (NO_0, NO_1)])
        self.holds(Pleased([True, False]), house)
        self.holds(Pleased([False, True]), house)
        self.fails(Pleased([True, True]), house)
        self.fails(Pleased([False, False]), house)

    def test_too_short_or_too_long(self):
        for names in range(1, 9):
            for wishes in ([], [(YES_0, NO_0)], [(YES_0, YES_0)]):
                house = House(names, wishes)
                self.holds(Pleased([True] * names), house)
                for length in (0, names - 1, names + 1, names + 2, 24):
                    self.fails(Pleased([True] * length), house)
                    self.fails(Pleased([False] * length), house)

    def test_something_that_is_no_truth(self):
        for wrong in (0, 1, None, "", "True", 1.0, [True], (True,), (0, True), {}):
            for wishes in ([], [(YES_0, NO_0)], [(YES_1, YES_1), (YES_0, YES_0)]):
                house = House(2, wishes)
                self.holds(Pleased([True, True]), house)
                self.fails(Pleased([wrong, True]), house)
                self.fails(Pleased([True, wrong]), house)
                self.fails(Pleased([wrong, wrong]), house)

    def test_of_another_house(self):
        answer = Pleased([True, False])
        self.holds(answer, House(2, [(YES_0, YES_1)]))
        self.fails(answer, House(2, [(NO_0, YES_1)]))
        self.fails(answer, House(1, []))
        self.fails(answer, House(3, []))
        self.holds(answer, House(2, [(YES_0, YES_1)]))

    def test_as_all_choices_tell(self):
        for names, wishes in list(helper.small_houses()) + list(helper.mixed_houses()):
            house = House(names, wishes)
            for choice in helper.choices_of(names)[::1 if names < 5 else 7]:
                wanted = all(helper.pleased_by(choice, wish) for wish in wishes)
                self.assertIs(Pleased(choice).holds(house), wanted, (names, wishes, choice))

    def test_by_its_field_as_it_stands(self):
        house = House(2, [(YES_0, YES_0)])
        answer = Pleased([True, True])
        answer.choice[0] = False
        self.fails(answer, house)
        answer.choice = [True, False]
        self.holds(answer, house)
        answer.choice.append(True)
        self.fails(answer, house)
        answer.choice.pop()
        self.holds(answer, house)

    def test_the_list_that_was_handed_in_is_not_kept(self):
        house = House(2, [(YES_0, YES_0)])
        choice = [True, True]
        answer = Pleased(choice)
        choice[0] = False
        choice.append(True)
        self.holds(answer, house)
        self.assertEqual(answer.choice, [True, True])
        answer.choice.clear()
        self.assertEqual(choice, [False, True, True])


class TornHolds(Holds):
    def setUp(self):
        self.house = House(3, TORN_WISHES)

    def test_two_chains_from_a_word_to_its_opposite_and_back(self):
        self.holds(Torn(THERE, BACK), self.house)
        self.holds(Torn(BACK, THERE), self.house)

    def test_the_shortest_ones(self):
        house = House(1, [(YES_0, YES_0), (NO_0, NO_0)])
        self.holds(Torn([NO_0, YES_0], [YES_0, NO_0]), house)
        self.holds(Torn([YES_0, NO_0], [NO_0, YES_0]), house)

    def test_ones_that_go_round(self):
        self.holds(Torn(THERE + BACK[1:] + THERE[1:], BACK), self.house)
        self.holds(Torn(THERE, BACK + THERE[1:] + BACK[1:]), self.house)

    def test_empty_lists(self):
        for wishes in ([], TORN_WISHES):
            house = House(3, wishes)
            self.fails(Torn([], []), house)
            self.fails(Torn(THERE, []), house)
            self.fails(Torn([], BACK), house)

    def test_one_word_alone(self):
        self.fails(Torn([YES_0], [YES_0]), self.house)
        self.fails(Torn([YES_0], [NO_0]), self.house)
        self.fails(Torn(THERE, [NO_0]), self.house)
        self.fails(Torn(THERE, [YES_0]), self.house)

    def test_one_wrong_step(self):
        for links, other in ((THERE, BACK), (BACK, THERE)):
            for place in range(3):
                # By the same two wishes a chain to the opposite may lead over either word of the name in its middle.
                right = [links[place], helper.opposite(links[1])] if place == 1 else [links[place]]
                for word in helper.words_of(3):
                    check = self.holds if word in right else self.fails
                    changed = links[:place] + [word] + links[place + 1:]
                    check(Torn(changed, other), self.house)
                    check(Torn(other, changed), self.house)

    def test_the_last_step_alone_is_wrong(self):
        house = House(3, TORN_WISHES[:3])
        self.holds(Torn(THERE, BACK), self.house)
        self.fails(Torn(THERE, BACK), house)
        self.fails(Torn(BACK, THERE), house)

    def test_a_word_said_twice_is_a_step_as_any_other(self):
        self.fails(Torn([YES_0] + THERE, BACK), self.house)
        self.fails(Torn(THERE, BACK + [YES_0]), self.house)
        self.fails(Torn(THERE + [NO_0], [NO_0] + BACK), self.house)

    def test_steps_the_wrong_way_round(self):
        house = House(2, [(NO_0, YES_1), (NO_1, NO_0), (YES_0, YES_0)])
        self.holds(Torn([YES_0, YES_1, NO_0], [NO_0, YES_0]), house)
        self.fails(Torn([YES_0, YES_1, NO_0], [NO_0, YES_1, YES_0]), house)

    def test_chains_that_do_not_lead_from_a_word_to_its_opposite_and_back(self):
        self.fails(Torn(THERE, THERE), self.house)
        self.fails(Torn(BACK, BACK), self.house)
        self.fails(Torn(THERE[:2], BACK), self.house)
        self.fails(Torn(THERE, BACK[1:]), self.house)
        self.fails(Torn(THERE, BACK[:2]), self.house)
        self.fails(Torn(THERE + BACK[1:], BACK), self.house)
        self.fails(Torn(THERE, BACK + THERE[1:]), self.house)
        self.fails(Torn(THERE + BACK[1:], BACK + THERE[1:]), self.house)

    def test_chains_between_two_words_that_are_not_opposites(self):
        house = House(2, helper.ring(2))
        self.fails(Torn([YES_0, YES_1], [YES_1, YES_0]), house)
        self.fails(Torn([YES_0, YES_1, YES_0], [YES_0, YES_1, YES_0]), house)

    def test_tears_of_two_names(self):
        house = House(2, [(word, word) for word in (YES_0, NO_0, YES_1, NO_1)])
        self.holds(Torn([YES_0, NO_0], [NO_0, YES_0]), house)
        self.fails(Torn([YES_0, NO_0], [NO_1, YES_1]), house)
        self.fails(Torn([YES_0, NO_0], [YES_1, NO_1]), house)

    def test_of_another_house(self):
        answer = Torn(THERE, BACK)
        self.holds(answer, self.house)
        self.holds(answer, House(8, list(reversed(TORN_WISHES))))
        self.fails(answer, House(3, []))
        for place in range(4):
            self.fails(answer, House(3, TORN_WISHES[:place] + TORN_WISHES[place + 1:]))

    def test_as_a_look_at_each_step_tells(self):
        for names, wishes in helper.small_houses():
            house = House(names, wishes)
            lists = list(helper.lists_of(helper.words_of(names), 3 if names == 1 else 2))
            for there in lists:
                for back in lists:
                    wanted = helper.tears(wishes, there, back)
                    self.assertIs(Torn(there, back).holds(house), wanted, (names, wishes, there, back))

    def test_by_its_fields_as_they_stand(self):
        answer = Torn(THERE, BACK)
        answer.there[1] = YES_2
        self.fails(answer, self.house)
        answer.there = list(THERE)
        self.holds(answer, self.house)
        answer.back.pop()
        self.fails(answer, self.house)
        answer.back.append(YES_0)
        self.holds(answer, self.house)
        answer.there, answer.back = answer.back, answer.there
        self.holds(answer, self.house)

    def test_the_lists_that_were_handed_in_are_not_kept(self):
        there, back = list(THERE), list(BACK)
        answer = Torn(there, back)
        there.clear()
        back.reverse()
        self.holds(answer, self.house)
        self.assertEqual((answer.there, answer.back), (THERE, BACK))
        answer.back.clear()
        self.assertEqual((there, back), ([], BACK[::-1]))

    def test_one_list_handed_in_for_both(self):
        links = list(THERE)
        answer = Torn(links, links)
        answer.back.clear()
        self.assertEqual((answer.there, answer.back, links), (THERE, [], THERE))


class ClashHolds(Holds):
    def setUp(self):
        self.wishes = [(NO_0, YES_1), (NO_1, NO_2)]
        self.house = House(3, self.wishes)

    def test_from_one_to_the_opposite_of_another(self):
        self.holds(Clash([YES_0, YES_2], [YES_0, YES_1, NO_2]), self.house)
        self.holds(Clash([YES_2, YES_0], [YES_0, YES_1, NO_2]), self.house)
        self.holds(Clash([YES_2, YES_0], [YES_2, NO_1, NO_0]), self.house)
        self.holds(Clash([YES_1, YES_2], [YES_1, NO_2]), self.house)

    def test_from_one_to_its_own_opposite(self):
        house = House(1, [(NO_0, NO_0)])
        self.holds(Clash([YES_0], [YES_0, NO_0]), house)
        self.holds(Clash([YES_0, YES_0], [YES_0, NO_0]), house)
        self.fails(Clash([NO_0], [YES_0, NO_0]), house)

    def test_a_word_and_its_opposite(self):
        for wishes in ([], self.wishes):
            house = House(3, wishes)
            self.holds(Clash([YES_0, NO_0], [YES_0]), house)
            self.holds(Clash([YES_0, NO_0], [NO_0]), house)
            self.holds(Clash([YES_1, YES_0, NO_0], [NO_0]), house)
            self.fails(Clash([YES_0, NO_0], [YES_1]), house)
            self.fails(Clash([YES_0, NO_1], [YES_0]), house)
            self.fails(Clash([YES_0], [YES_0]), house)
            self.fails(Clash([YES_0], [NO_0]), house)
            self.fails(Clash([YES_0, NO_0], [YES_0, NO_0]), house)

    def test_empty_lists(self):
        for wishes in ([], self.wishes, TORN_WISHES):
            house = House(3, wishes)
            self.fails(Clash([], []), house)
            self.fails(Clash([YES_0], []), house)
            self.fails(Clash([YES_0, NO_0], []), house)
            self.fails(Clash([], [YES_0]), house)
            self.fails(Clash([], [YES_0, YES_1, NO_2]), house)

    def test_ends_that_are_not_as_told_of_the_words(self):
        links = [YES_0, YES_1, NO_2]
        for words in ([YES_0], [YES_2], [YES_0, NO_2], [NO_0, YES_2], [NO_0, NO_2], [YES_0, YES_1], [YES_1, YES_2]):
            self.fails(Clash(words, links), self.house)
        for words in ([YES_0, YES_1, YES_2], [NO_0, YES_2, NO_1, YES_0]):
            self.holds(Clash(words, links), self.house)

    def test_one_wrong_step(self):
        links = [YES_0, YES_1, NO_2]
        for word in helper.words_of(3):
            if word != YES_1:
                self.fails(Clash(helper.words_of(3), [YES_0, word, NO_2]), self.house)
        self.fails(Clash([YES_0, YES_2], [YES_0, NO_2]), self.house)
        self.fails(Clash([YES_0, YES_2], [YES_0] + links), self.house)
        self.fails(Clash([YES_0, YES_2], links + [NO_2]), self.house)
        self.fails(Clash([YES_0, YES_2, NO_0, NO_2], list(reversed(links))), self.house)

    def test_in_a_house_that_no_choice_pleases(self):
        house = House(3, TORN_WISHES)
        self.holds(Clash([YES_0], THERE), house)
        self.holds(Clash([NO_0, YES_1], BACK), house)
        self.holds(Clash([NO_0, YES_2], [NO_0, NO_2]), house)
        self.fails(Clash([YES_1], THERE), house)
        self.fails(Clash([YES_0], BACK), house)

    def test_of_another_house(self):
        answer = Clash([YES_0, YES_2], [YES_0, YES_1, NO_2])
        self.holds(answer, self.house)
        self.holds(answer, House(8, list(reversed(self.wishes))))
        self.fails(answer, House(3, []))
        self.fails(answer, House(3, self.wishes[:1]))
        self.fails(answer, House(3, self.wishes[1:]))

    def test_as_a_look_at_each_step_tells(self):
        for names, wishes in helper.small_houses():
            house = House(names, wishes)
            for words in helper.lists_of(helper.words_of(names), 2):
                for links in helper.lists_of(helper.words_of(names), 3 if names == 1 else 2):
                    wanted = helper.clashes(wishes, words, links)
                    self.assertIs(Clash(words, links).holds(house), wanted, (names, wishes, words, links))

    def test_by_its_fields_as_they_stand(self):
        answer = Clash([YES_0, YES_2], [YES_0, YES_1, NO_2])
        answer.words.pop()
        self.fails(answer, self.house)
        answer.words = [NO_1, YES_2, YES_0]
        self.holds(answer, self.house)
        answer.links[1] = NO_1
        self.fails(answer, self.house)
        answer.links = [YES_2, NO_1, NO_0]
        self.holds(answer, self.house)

    def test_the_lists_that_were_handed_in_are_not_kept(self):
        words, links = [YES_0, YES_2], [YES_0, YES_1, NO_2]
        answer = Clash(words, links)
        words.clear()
        links.reverse()
        self.holds(answer, self.house)
        self.assertEqual((answer.words, answer.links), ([YES_0, YES_2], [YES_0, YES_1, NO_2]))
        answer.words.append(NO_1)
        answer.links.clear()
        self.assertEqual((words, links), ([], [NO_2, YES_1, YES_0]))


class ToldAnswersOfOtherHouses(Holds):
    def test_what_is_told_of_one_house_asked_of_others(self):
        houses = [given for given in helper.small_houses() if given[0] == 2][::5]
        for names, wishes in houses:
            answer = telling(House(names, wishes))
            for other_names, others in houses:
                if type(answer) is Pleased:
                    wanted = all(helper.pleased_by(answer.choice, wish) for wish in others)
                else:
                    wanted = helper.tears(others, answer.there, answer.back)
                self.assertIs(answer.holds(House(other_names, others)), wanted, (wishes, others))

    def test_words_that_a_smaller_house_does_not_have(self):
        for wishes in ([], [(YES_0, NO_0)]):
            self.fails(Torn(THERE, BACK), House(1, wishes))
            self.fails(Clash([YES_2, NO_2], [YES_2]), House(1, wishes))
            self.fails(Clash([YES_2, NO_2], [YES_2]), House(2, wishes))
            self.holds(Clash([YES_2, NO_2], [YES_2]), House(3, wishes))

    def test_a_clash_told_of_one_house_asked_of_others(self):
        answer = keeping(House(2, [(NO_0, NO_1)]), [YES_1, YES_0])
        self.holds(answer, House(2, [(NO_1, NO_0), (YES_0, YES_0)]))
        self.fails(answer, House(2, [(YES_0, YES_1)]))


if __name__ == "__main__":
    unittest.main()
