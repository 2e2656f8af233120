"""Houses of names and wishes, and what follows in them from a word."""

from eitheror.errors import BadChoice, BadHouse, BadWord

MOST_NAMES = 8
MOST_WISHES = 24


class House:
    def __init__(self, names, wishes):
        if not is_number(names) or not 1 <= names <= MOST_NAMES:
            raise BadHouse("a house has 1 to 8 names")
        if not isinstance(wishes, list) or len(wishes) > MOST_WISHES:
            raise BadHouse("a house has a list of 0 to 24 wishes")
        if not all([is_wish(names, wish) for wish in wishes]):
            raise BadHouse("a wish is a pair of two words of the house")
        self.names = names
        # A tuple: neither the list handed in nor one given back can change it later.
        self.kept = tuple(wishes)

    def wishes(self):
        return list(self.kept)


def follows(house, word):
    check_word(house, word)
    return sorted(words_ahead(house, word))


def chain(house, word, other):
    check_word(house, word)
    check_word(house, other)
    ahead = words_ahead(house, word)
    if other not in ahead:
        return []
    links = []
    link = other
    while link is not None:
        links.append(link)
        link = ahead[link]
    return list(reversed(links))


def hanging(house):
    following = {}
    for word in all_words(house):
        following[word] = follows(house, word)
    groups = []
    for word in all_words(house):
        group = [other for other in following[word] if word in following[other]]
        # A group comes up once for each of its words; taken at its first one, it stands there once and in order.
        if group[0] == word:
            groups.append(group)
    return groups


def displeased(house, choice):
    if not is_choice(house, choice):
        raise BadChoice("a choice is a list of a truth for each name of the house")
    return [place for place, wish in enumerate(house.wishes()) if not pleases(choice, wish)]


def is_number(value):
    # Python counts True and False among its whole numbers; here they are truths alone.
    return isinstance(value, int) and not isinstance(value, bool)


def is_word(names, value):
    if not isinstance(value, tuple) or len(value) != 2:
        return False
    return is_number(value[0]) and 0 <= value[0] < names and isinstance(value[1], bool)


def is_wish(names, value):
    if not isinstance(value, tuple) or len(value) != 2:
        return False
    return is_word(names, value[0]) and is_word(names, value[1])


def is_choice(house, value):
    if not isinstance(value, list) or len(value) != house.names:
        return False
    return all([isinstance(truth, bool) for truth in value])


def check_word(house, value):
    if not is_word(house.names, value):
        raise BadWord("a word is a pair of a name of the house and a truth")


def has_word(choice, word):
    return choice[word[0]] == word[1]


def pleases(choice, wish):
    return has_word(choice, wish[0]) or has_word(choice, wish[1])


def opposite(word):
    return (word[0], not word[1])


def all_words(house):
    words = []
    for name in range(house.names):
        words.append((name, False))
        words.append((name, True))
    return words


def said_next(house, word):
    denied = opposite(word)
    found = []
    for wish in house.wishes():
        if wish[0] == denied:
            found.append(wish[1])
        if wish[1] == denied:
            found.append(wish[0])
    return found


def words_ahead(house, word):
    # For each word that follows, the one ahead of it on the way there. Nearer words are gone on from first,
    # so that each way is as short as can be.
    ahead = {word: None}
    reached = [word]
    at = 0
    while at < len(reached):
        current = reached[at]
        for found in said_next(house, current):
            if found not in ahead:
                ahead[found] = current
                reached.append(found)
        at = at + 1
    return ahead
