"""Houses as texts."""

from eitheror.errors import BadText
from eitheror.houses import MOST_WISHES, House

BETWEEN = "; "
COUNTS = "12345678"
NAMES = "01234567"
SIGNS = "+-"


def written(house):
    parts = [str(house.names)]
    for wish in house.wishes():
        parts.append(written_word(wish[0]) + written_word(wish[1]))
    return BETWEEN.join(parts)


def read(text):
    if not isinstance(text, str):
        raise BadText(0)
    parts = text.split(BETWEEN)
    if not is_count(parts[0]):
        raise BadText(0)
    names = int(parts[0])
    wishes = []
    for place, part in enumerate(parts[1:], start=1):
        if not is_written_wish(names, part):
            raise BadText(place)
        wishes.append((read_word(part[:2]), read_word(part[2:])))
    # Only now: a part that isn't of the form is told ahead of there being too many.
    if len(wishes) > MOST_WISHES:
        raise BadText(len(parts))
    return House(names, wishes)


def written_word(word):
    return str(word[0]) + ("+" if word[1] else "-")


def read_word(note):
    return (int(note[0]), note[1] == "+")


def is_count(part):
    return len(part) == 1 and part in COUNTS


def is_written_word(names, note):
    return len(note) == 2 and note[0] in NAMES[:names] and note[1] in SIGNS


def is_written_wish(names, part):
    return is_written_word(names, part[:2]) and is_written_word(names, part[2:])
