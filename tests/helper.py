"""What the document says of words, choices and chains, told once more for the tests, and houses to ask of."""

import itertools
import random


def opposite(word):
    return (word[0], not word[1])


def words_of(names):
    return [(name, truth) for name in range(names) for truth in (False, True)]


def wishes_of(names):
    return list(itertools.product(words_of(names), repeat=2))


def choices_of(names):
    return [list(truths) for truths in itertools.product((False, True), repeat=names)]


def must_be_next(wishes, ahead, behind):
    """[3]: whether there is a wish of the word behind and of the opposite of the one ahead."""
    return (behind, opposite(ahead)) in wishes or (opposite(ahead), behind) in wishes


def is_chain(wishes, links):
    return len(links) > 0 and all(must_be_next(wishes, a, b) for a, b in zip(links, links[1:]))


def chain_lengths(names, wishes):
    """How many words a shortest chain has, for each pair of words that one leads between."""
    words = words_of(names)
    lengths = {(word, word): 1 for word in words}
    for a, b in itertools.product(words, repeat=2):
        if a != b and must_be_next(wishes, a, b):
            lengths[a, b] = 2
    for middle, a, b in itertools.product(words, repeat=3):
        if (a, middle) in lengths and (middle, b) in lengths:
            through = lengths[a, middle] + lengths[middle, b] - 1
            lengths[a, b] = min(through, lengths.get((a, b), through))
    return lengths


def pleased_by(choice, wish):
    """[2]: whether the choice has one of the wish's words at least."""
    return any(choice[name] is truth for name, truth in wish)


def pleasing(names, wishes):
    return [choice for choice in choices_of(names) if all(pleased_by(choice, wish) for wish in wishes)]


def tears(wishes, there, back):
    """[4]: whether these are two chains, one from a word to its opposite, and one from there back."""
    if not is_chain(wishes, there) or not is_chain(wishes, back):
        return False
    word = there[0]
    return (there[-1], back[0], back[-1]) == (opposite(word), opposite(word), word)


def clashes(wishes, words, links):
    """[5]: whether this is a chain from one of the words to the opposite of one of them."""
    return is_chain(wishes, links) and links[0] in words and links[-1] in [opposite(word) for word in words]


def lists_of(members, most):
    """All lists of these members, in each order, of none up to the most."""
    for count in range(most + 1):
        for members_taken in itertools.product(members, repeat=count):
            yield list(members_taken)


def small_houses():
    """All houses of one name with up to three wishes, and all of two names with up to two."""
    for names, most in ((1, 3), (2, 2)):
        for count in range(most + 1):
            for wishes in itertools.product(wishes_of(names), repeat=count):
                yield names, list(wishes)


def mixed_houses():
    """Houses of each number of names, with none to 24 wishes; the same ones each time."""
    source = random.Random(20)
    for names in range(1, 9):
        for count in (0, 1, 2, 4, 6, 8, 12, 16, 20, 24):
            for turn in range(3):
                yield names, [source.choice(wishes_of(names)) for place in range(count)]


def pleased_houses():
    """Houses of each number of names and of wishes that some choice pleases; the same ones each time."""
    source = random.Random(21)
    for names in range(1, 9):
        for count in range(25):
            choice = source.choice(choices_of(names))
            fitting = [wish for wish in wishes_of(names) if pleased_by(choice, wish)]
            yield names, [source.choice(fitting) for place in range(count)]


def torn_houses():
    """Houses of each number of names, with 2 to 24 wishes, that no choice pleases; the same ones each time."""
    source = random.Random(22)
    for names in range(1, 9):
        yield names, long_tear(names)
        for count in range(2, 25):
            wishes = [source.choice(wishes_of(names)) for place in range(count)]
            if pleasing(names, wishes):
                word = source.choice(words_of(names))
                wishes[:2] = [(word, word), (opposite(word), opposite(word))]
            source.shuffle(wishes)
            yield names, wishes


def long_tear(names):
    """A house whose words all hang on one another, around all names and back."""
    first, last = (0, True), (names - 1, False)
    return ladder(names) + [(first, first), (last, last)]


def ring(names):
    """A house in which each word follows from each other one of its truth, around all names."""
    return [((name, False), ((name + 1) % names, True)) for name in range(names)]


def ladder(names):
    """A house in which the yes of a name makes that of the name above it follow."""
    return [((name, False), (name + 1, True)) for name in range(names - 1)]
