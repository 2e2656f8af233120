"""What is told of a house: a choice that pleases all wishes, or the chains for which there is none."""

from eitheror.errors import BadWord, Unpleased
from eitheror.houses import chain, check_word, displeased, has_word, is_choice, is_word, opposite, said_next


class Answer:
    # Each kind of answer has its own; an answer of no kind tells nothing that could hold.
    def holds(self, house):
        return False


class Pleased(Answer):
    def __init__(self, choice):
        self.choice = list(choice)

    def holds(self, house):
        return is_choice(house, self.choice) and displeased(house, self.choice) == []


class Torn(Answer):
    def __init__(self, there, back):
        self.there = list(there)
        self.back = list(back)

    def holds(self, house):
        if not leads_to_opposite(house, self.there) or not leads_to_opposite(house, self.back):
            return False
        return self.back[0] == self.there[-1]


class Clash(Answer):
    def __init__(self, words, links):
        self.words = list(words)
        self.links = list(links)

    def holds(self, house):
        if not is_chain(house, self.links):
            return False
        return self.links[0] in self.words and opposite(self.links[-1]) in self.words


def telling(house):
    choices = pleasing_choices(house)
    if choices:
        return Pleased(choices[0])
    return find_torn(house)


def keeping(house, words):
    check_words(house, words)
    check_pleased(house)
    for choice in pleasing_choices(house):
        if all([has_word(choice, word) for word in words]):
            return Pleased(choice)
    return find_clash(house, words)


def settled(house):
    check_pleased(house)
    return [settling_chain(house, name) for name in range(house.names)]


def how_many(house):
    return len(pleasing_choices(house))


def check_words(house, value):
    if not isinstance(value, list):
        raise BadWord("the words are a list of words of the house")
    for word in value:
        check_word(house, word)


def check_pleased(house):
    if not pleasing_choices(house):
        raise Unpleased(find_torn(house))


def all_choices(house):
    choices = [[]]
    for name in range(house.names):
        choices = [choice + [False] for choice in choices] + [choice + [True] for choice in choices]
    return choices


def pleasing_choices(house):
    # With 8 names at most there are no more than 256 choices, few enough to look at each of them.
    return [choice for choice in all_choices(house) if displeased(house, choice) == []]


def find_torn(house):
    # Where no choice pleases all wishes, the words of one name at least hang on one another.
    for name in range(house.names):
        there = chain(house, (name, False), (name, True))
        back = chain(house, (name, True), (name, False))
        if there and back:
            return Torn(there, back)
    return None


def find_clash(house, words):
    # If no chain led from one of the words to the opposite of one, all that follows from them could be chosen
    # together, and the names left over be chosen as in any choice that pleases all wishes.
    asked = sorted(set(words))
    for word in asked:
        for other in asked:
            links = chain(house, word, opposite(other))
            if links:
                return Clash(words, links)
    return None


def settling_chain(house, name):
    # Where some choice pleases all wishes, a chain leads one of these two ways at most.
    links = chain(house, (name, False), (name, True))
    if links:
        return links
    return chain(house, (name, True), (name, False))


def is_chain(house, links):
    if not links or not all([is_word(house.names, word) for word in links]):
        return False
    return all([word in said_next(house, ahead) for ahead, word in zip(links, links[1:])])


def leads_to_opposite(house, links):
    return is_chain(house, links) and links[-1] == opposite(links[0])
