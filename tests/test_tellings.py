"""[4], [5] and [6]: what is told of a house, looked at with all its choices and step by step."""

import random
import unittest

import helper
from eitheror.errors import Unpleased
from eitheror.houses import House
from eitheror.tellings import Answer, Clash, Pleased, Torn, how_many, keeping, settled, telling

NO_0, YES_0 = (0, False), (0, True)
NO_1, YES_1 = (1, False), (1, True)
NO_2, YES_2 = (2, False), (2, True)


def all_houses():
    for houses in (helper.small_houses, helper.mixed_houses, helper.pleased_houses, helper.torn_houses):
        yield from houses()


def houses_some_choice_pleases():
    for names, wishes in all_houses():
        if helper.pleasing(names, wishes):
            yield names, wishes


def houses_no_choice_pleases():
    for names, wishes in all_houses():
        if not helper.pleasing(names, wishes):
            yield names, wishes


class Tellings(unittest.TestCase):
    def check_pleased(self, names, wishes, words, answer):
        told = (names, wishes, words, vars(answer))
        self.assertIs(type(answer), Pleased, told)
        self.assertIs(type(answer.choice), list, told)
        self.assertEqual(len(answer.choice), names, told)
        self.assertTrue(all(type(truth) is bool for truth in answer.choice), told)
        self.assertTrue(all(helper.pleased_by(answer.choice, wish) for wish in wishes), told)
        self.assertTrue(all(answer.choice[name] is truth for name, truth in words), told)
        self.assertIs(answer.holds(House(names, wishes)), True, told)

    def check_torn(self, names, wishes, answer):
        told = (names, wishes, vars(answer))
        self.assertIs(type(answer), Torn, told)
        self.check_words(names, answer.there)
        self.check_words(names, answer.back)
        self.assertTrue(helper.tears(wishes, answer.there, answer.back), told)
        self.assertIs(answer.holds(House(names, wishes)), True, told)

    def check_clash(self, names, wishes, words, answer):
        told = (names, wishes, words, vars(answer))
        self.assertIs(type(answer), Clash, told)
        self.assertEqual(answer.words, words, told)
        self.check_words(names, answer.words)
        self.check_words(names, answer.links)
        self.assertTrue(helper.clashes(wishes, words, answer.links), told)
        self.assertIs(answer.holds(House(names, wishes)), True, told)

    def check_words(self, names, words):
        self.assertIs(type(words), list)
        for word in words:
            self.assertIs(type(word), tuple)
            self.assertIs(type(word[0]), int)
            self.assertIs(type(word[1]), bool)
            self.assertIn(word, helper.words_of(names))

    def check_unpleased(self, names, wishes, ask):
        try:
            answer = ask(House(names, wishes))
        except Exception as refusal:
            self.assertIs(type(refusal), Unpleased, (names, wishes))
            self.check_torn(names, wishes, refusal.torn)
        else:
            self.fail(f"{names}, {wishes} was answered with {answer!r}")


class Kinds(unittest.TestCase):
    def test_each_stands_straight_under_the_one_above(self):
        self.assertEqual(Answer.__bases__, (object,))
        for kind in (Pleased, Torn, Clash):
            self.assertEqual(kind.__bases__, (Answer,))

    def test_an_answer_of_no_kind_holds_of_no_house(self):
        self.assertIs(Answer().holds(House(1, [])), False)

    def test_arguments_are_called_as_the_interface_tells(self):
        house = House(1, [(YES_0, YES_0)])
        self.assertIs(Answer().holds(house=house), False)
        self.assertTrue(Pleased(choice=[True]).holds(house=house))
        self.assertFalse(Torn(there=[NO_0, YES_0], back=[YES_0, NO_0]).holds(house=house))
        self.assertTrue(Clash(words=[NO_0], links=[NO_0, YES_0]).holds(house=house))
        self.assertEqual(telling(house=house).choice, [True])
        self.assertEqual(keeping(house=house, words=[YES_0]).choice, [True])
        self.assertEqual(settled(house=house), [[NO_0, YES_0]])
        self.assertEqual(how_many(house=house), 1)


class Telling(Tellings):
    def test_a_house_without_wishes(self):
        for names in range(1, 9):
            self.check_pleased(names, [], [], telling(House(names, [])))

    def test_the_only_choice(self):
        for choice in helper.choices_of(3):
            wishes = [((name, truth), (name, truth)) for name, truth in enumerate(choice)]
            self.assertEqual(telling(House(3, wishes)).choice, choice)

    def test_the_same_word_twice(self):
        self.assertEqual(telling(House(1, [(YES_0, YES_0)])).choice, [True])
        self.assertEqual(telling(House(1, [(NO_0, NO_0)])).choice, [False])
        self.check_torn(1, [(YES_0, YES_0), (NO_0, NO_0)], telling(House(1, [(YES_0, YES_0), (NO_0, NO_0)])))

    def test_a_word_and_its_opposite(self):
        for wishes in ([(YES_0, NO_0)], [(NO_0, YES_0), (YES_0, NO_0)], [(NO_0, YES_0)] * 24):
            self.check_pleased(1, wishes, [], telling(House(1, wishes)))

    def test_all_four_wishes_of_two_names(self):
        wishes = [(a, b) for a in (NO_0, YES_0) for b in (NO_1, YES_1)]
        self.check_torn(2, wishes, telling(House(2, wishes)))
        for place in range(4):
            fewer = wishes[:place] + wishes[place + 1:]
            self.check_pleased(2, fewer, [], telling(House(2, fewer)))

    def test_a_tear_of_the_last_name_alone(self):
        for names in range(1, 9):
            word = (names - 1, True)
            wishes = [(word, word), (helper.opposite(word), helper.opposite(word))]
            self.check_torn(names, wishes, telling(House(names, wishes)))

    def test_a_tear_through_all_words(self):
        for names in range(1, 9):
            wishes = helper.long_tear(names)
            self.check_torn(names, wishes, telling(House(names, wishes)))

    def test_one_way_to_the_opposite_is_no_tear(self):
        for names in range(1, 9):
            for left_out in (-1, -2):
                wishes = helper.long_tear(names)
                wishes.pop(left_out)
                self.check_pleased(names, wishes, [], telling(House(names, wishes)))

    def test_pleased_just_if_some_choice_pleases(self):
        for names, wishes in houses_some_choice_pleases():
            self.check_pleased(names, wishes, [], telling(House(names, wishes)))

    def test_torn_just_if_no_choice_pleases(self):
        for names, wishes in houses_no_choice_pleases():
            self.check_torn(names, wishes, telling(House(names, wishes)))

    def test_never_both(self):
        for names, wishes in helper.small_houses():
            house = House(names, wishes)
            answer = telling(house)
            if type(answer) is Torn:
                self.assertFalse(any(Pleased(choice).holds(house) for choice in helper.choices_of(names)))
            else:
                self.assertFalse(any(
                    Torn(there, back).holds(house)
                    for there in helper.lists_of(helper.words_of(names), 2)
                    for back in helper.lists_of(helper.words_of(names), 2)))

    def test_what_is_tried_here_is_of_both_kinds_and_all_sizes(self):
        for houses, fewest in ((houses_some_choice_pleases(), 0), (houses_no_choice_pleases(), 2)):
            sizes = {(names, len(wishes)) for names, wishes in houses}
            for names in range(1, 9):
                for count in range(fewest, 25):
                    self.assertIn((names, count), sizes)


class Keeping(Tellings):
    def check_keeping(self, names, wishes, words):
        answer = keeping(House(names, wishes), list(words))
        having = [choice for choice in helper.pleasing(names, wishes)
                  if all(choice[name] is truth for name, truth in words)]
        if having:
            self.check_pleased(names, wishes, words, answer)
        else:
            self.check_clash(names, wishes, words, answer)
        return type(answer)

    def test_no_words(self):
        for names, wishes in houses_some_choice_pleases():
            self.assertIs(self.check_keeping(names, wishes, []), Pleased)

    def test_one_word(self):
        house = House(2, [(YES_0, YES_0), (NO_0, YES_1)])
        self.assertEqual(keeping(house, [YES_0]).choice, [True, True])
        self.assertEqual(keeping(house, [YES_1]).choice, [True, True])
        self.assertEqual(keeping(house, [NO_0]).links[0], NO_0)
        self.assertEqual(keeping(house, [NO_0]).words, [NO_0])
        self.check_clash(2, house.wishes(), [NO_1], keeping(house, [NO_1]))

    def test_a_word_twice(self):
        house = House(2, [(YES_0, YES_0)])
        self.check_pleased(2, house.wishes(), [YES_0], keeping(house, [YES_0, YES_0]))
        self.check_clash(2, house.wishes(), [NO_0, NO_0], keeping(house, [NO_0, NO_0]))
        self.check_clash(2, house.wishes(), [NO_0, YES_1, NO_0], keeping(house, [NO_0, YES_1, NO_0]))

    def test_a_word_and_its_opposite(self):
        for names in range(1, 9):
            for name in range(names):
                for words in ([(name, True), (name, False)], [(name, False), (name, True)]):
                    self.assertIs(self.check_keeping(names, [], words), Clash)

    def test_a_clash_of_two_words_of_which_each_can_be_had(self):
        wishes = [(NO_0, YES_1), (NO_1, NO_2)]
        for words in ([YES_0, YES_2], [YES_2, YES_0]):
            self.assertIs(self.check_keeping(3, wishes, words), Clash)
            self.assertIs(self.check_keeping(3, wishes, words[:1]), Pleased)
            self.assertIs(self.check_keeping(3, wishes, words[1:]), Pleased)

    def test_words_of_any_order_stay_as_they_are_handed_in(self):
        wishes = [(NO_0, NO_2)]
        for words in ([YES_2, NO_1, YES_0], [YES_0, YES_2, NO_1], [YES_2, YES_2, YES_0, NO_1, YES_0]):
            self.assertEqual(keeping(House(3, wishes), list(words)).words, words)

    def test_a_long_chain(self):
        wishes = helper.ladder(8)
        self.assertIs(self.check_keeping(8, wishes, [(7, False), YES_0]), Clash)
        self.assertIs(self.check_keeping(8, wishes, [(7, True), YES_0]), Pleased)
        self.assertIs(self.check_keeping(8, wishes, [(7, False), NO_0]), Pleased)

    def test_many_words(self):
        words = helper.words_of(8)
        self.assertIs(self.check_keeping(8, [], words), Clash)
        self.assertIs(self.check_keeping(8, [], words[::2] * 40), Pleased)
        self.assertIs(self.check_keeping(8, helper.ring(8), words[::2] * 40 + words[1::2]), Clash)

    def test_all_lists_of_words_of_small_houses(self):
        for names, wishes in helper.small_houses():
            if helper.pleasing(names, wishes):
                for words in helper.lists_of(helper.words_of(names), 2):
                    self.check_keeping(names, wishes, words)

    def test_some_lists_of_words_of_each_house(self):
        source = random.Random(23)
        kinds = []
        for names, wishes in houses_some_choice_pleases():
            having = source.choice(helper.pleasing(names, wishes))
            had = list(enumerate(having))
            source.shuffle(had)
            self.assertIs(self.check_keeping(names, wishes, had), Pleased)
            for count in (1, 2, 3, names):
                words = [source.choice(helper.words_of(names)) for place in range(count)]
                kinds.append(self.check_keeping(names, wishes, words))
        self.assertGreater(kinds.count(Pleased), 100)
        self.assertGreater(kinds.count(Clash), 100)

    def test_never_both(self):
        for names, wishes in helper.small_houses():
            if not helper.pleasing(names, wishes):
                continue
            house = House(names, wishes)
            for words in helper.lists_of(helper.words_of(names), 2):
                links = list(helper.lists_of(helper.words_of(names), 2))
                clash = any(Clash(words, link).holds(house) for link in links)
                if type(keeping(house, words)) is Pleased:
                    self.assertFalse(clash, (names, wishes, words))

    def test_unpleased_where_no_choice_pleases(self):
        for names, wishes in houses_no_choice_pleases():
            last = (names - 1, True)
            for words in ([], [last], [last, last], [last, helper.opposite(last)]):
                self.check_unpleased(names, wishes, lambda house: keeping(house, words))


class Settled(Tellings):
    def check_settled(self, names, wishes):
        given = settled(House(names, wishes))
        choices = helper.pleasing(names, wishes)
        lengths = helper.chain_lengths(names, wishes)
        self.assertIs(type(given), list)
        self.assertEqual(len(given), names)
        for name, links in enumerate(given):
            told = (names, wishes, name, links)
            self.check_words(names, links)
            truths = {choice[name] for choice in choices}
            if len(truths) == 2:
                self.assertEqual(links, [], told)
            else:
                word = (name, truths == {False})
                self.assertTrue(helper.is_chain(wishes, links), told)
                self.assertEqual((links[0], links[-1]), (word, helper.opposite(word)), told)
                self.assertEqual(len(links), lengths[word, helper.opposite(word)], told)

    def test_without_wishes_none(self):
        for names in range(1, 9):
            self.assertEqual(settled(House(names, [])), [[]] * names)

    def test_the_same_word_twice(self):
        self.assertEqual(settled(House(3, [(YES_1, YES_1)])), [[], [NO_1, YES_1], []])
        self.assertEqual(settled(House(3, [(NO_1, NO_1)])), [[], [YES_1, NO_1], []])

    def test_a_word_and_its_opposite_settle_nothing(self):
        self.assertEqual(settled(House(2, [(YES_0, NO_0), (NO_1, YES_1)])), [[], []])

    def test_settled_by_two_wishes(self):
        self.assertEqual(settled(House(2, [(NO_0, YES_1), (NO_0, NO_1)]))[0][::2], [YES_0, NO_0])
        self.assertEqual(settled(House(2, [(NO_0, YES_1), (NO_0, NO_1)]))[1], [])

    def test_each_name_through_all_others(self):
        wishes = helper.ladder(8) + [((7, False), (7, False))]
        yes = [(name, True) for name in range(8)]
        no = [(name, False) for name in range(7, -1, -1)]
        self.assertEqual(settled(House(8, wishes)), [yes[name:] + no[:8 - name] for name in range(8)])

    def test_as_short_as_can_be(self):
        long_way = [(NO_0, YES_1), (NO_1, YES_2), (NO_2, NO_0)]
        for wishes in (long_way + [(NO_0, NO_0)], [(NO_0, NO_0)] + long_way):
            self.assertEqual(settled(House(3, wishes))[0], [YES_0, NO_0])

    def test_against_all_choices(self):
        for names, wishes in houses_some_choice_pleases():
            self.check_settled(names, wishes)

    def test_unpleased_where_no_choice_pleases(self):
        for names, wishes in houses_no_choice_pleases():
            self.check_unpleased(names, wishes, settled)


class HowMany(Tellings):
    def test_without_wishes_all_choices(self):
        for names in range(1, 9):
            self.assertEqual(how_many(House(names, [])), 2 ** names)

    def test_none_where_no_choice_pleases(self):
        for names, wishes in helper.torn_houses():
            self.assertEqual(how_many(House(names, wishes)), 0)

    def test_a_wish_takes_a_quarter_or_a_half_or_none(self):
        self.assertEqual(how_many(House(3, [(YES_0, NO_2)])), 6)
        self.assertEqual(how_many(House(3, [(YES_0, YES_0)])), 4)
        self.assertEqual(how_many(House(3, [(YES_0, NO_0)])), 8)
        self.assertEqual(how_many(House(3, [(YES_0, NO_2)] * 24)), 6)

    def test_against_all_choices(self):
        for names, wishes in all_houses():
            number = how_many(House(names, wishes))
            self.assertIs(type(number), int)
            self.assertEqual(number, len(helper.pleasing(names, wishes)), (names, wishes))


if __name__ == "__main__":
    unittest.main()
