"""The rows that a desk is told, read word by word; whatever is no row is refused with NoRow, at None."""

from bestcalls.errors import NoRow
from bestcalls.reader import number_in
from bestcalls.sorts import MOST_BUNDLES, MOST_IN_BUNDLE
from bestcalls.webs import is_name


def check_row(holds):
    """Refuse the row where what it needs does not hold."""
    if not holds:
        raise NoRow(None)


def name_from(word):
    """The name that the word is."""
    check_row(is_name(word))
    return word


def number_from(known, word):
    """The number that the word is, one of the known words."""
    check_row(word in known)
    return int(word)


def place_from(word):
    """The place that the word is."""
    return number_from(("0", "1", "2"), word)


def figure_from(word):
    """The figure that the word is."""
    figure = number_in(word)
    # A figure is written in just one way, without noughts ahead.
    check_row(figure is not None and str(figure) == word)
    return figure


def bundle_from(word):
    """The list of unlike names that the word is, with + between."""
    names = [name_from(part) for part in word.split("+")]
    check_row(len(set(names)) == len(names))
    return names


def arm_from(word):
    """The arm that the word is: a name, or a tuple of several."""
    names = bundle_from(word)
    return names[0] if len(names) == 1 else tuple(names)


def thing_from(word):
    """The thing (kind, figure) that the word is."""
    kind, sign, figure = word.partition(":")
    return (name_from(kind), figure_from(figure))


def pick_from(word):
    """The pick that the word is."""
    if ":" not in word:
        return ("own", place_from(word))
    kind, figure = thing_from(word)
    return ("new", kind, figure)


def no_words(words):
    """Nothing, for no words at all."""
    check_row(not words)


def one_word(words):
    """The word that stands alone."""
    check_row(len(words) == 1)
    return words[0]


def some_words(words):
    """The words, one or more."""
    check_row(words)
    return words


def step_from(text):
    """The step that the text is."""
    word, *words = text.split(" ")
    if word == "say":
        return ("say", figure_from(one_word(words)))
    if word == "tell":
        return ("tell", place_from(one_word(words)))
    if word == "call":
        deed, *picks = some_words(words)
        return ("call", name_from(deed), [pick_from(pick) for pick in some_words(picks)])
    check_row(word == "onward" and not words)
    return ("onward",)


def kinds_from(words):
    """The tuple of one name or more that the words are."""
    return tuple([name_from(word) for word in some_words(words)])


def elders_from(words):
    """The list of elders that the words are: none, or behind < one or more."""
    if not words:
        return []
    check_row(words[0] == "<")
    return list(kinds_from(words[1:]))


def places_from(words):
    """The number of places that the words are."""
    return number_from(("1", "2", "3"), one_word(words))


def kinds_and_steps_from(words):
    """The kinds, and the steps behind =, if there are any, that the words are."""
    if "=" not in words:
        return (kinds_from(words), [])
    place = words.index("=")
    steps = " ".join(words[place + 1:]).split(", ")
    return (kinds_from(words[:place]), [step_from(step) for step in steps])


def arms_from(words):
    """The call of one arm or more that the words are."""
    return tuple([arm_from(word) for word in some_words(words)])


def things_from(words):
    """The list of one thing or more that the words are."""
    return [thing_from(word) for word in some_words(words)]


def sort_from(words):
    """The sort that the words are, a bundle each."""
    bundles = [bundle_from(word) for word in words]
    check_row(len(bundles) <= MOST_BUNDLES)
    check_row(all([len(bundle) <= MOST_IN_BUNDLE for bundle in bundles]))
    return bundles


def one_place_from(words):
    """The place that the words are."""
    return place_from(one_word(words))


# For the first word of each row, how many names stand behind it.
NAMES = {
    "kind": 1, "deed": 1, "rule": 2, "drop": 2, "unkind": 1, "ask": 1, "best": 1, "onward": 2, "chain": 1, "kept": 0,
    "reckoned": 0, "run": 1, "machine": 1, "free": 1, "enders": 1, "groups": 1, "order": 1, "depth": 1, "show": 0,
}

# And how the words behind these names are read.
TAILS = {
    "kind": elders_from, "deed": places_from, "rule": kinds_and_steps_from, "drop": no_words, "unkind": no_words,
    "ask": kinds_from, "best": arms_from, "onward": arms_from, "chain": arms_from, "kept": no_words,
    "reckoned": no_words, "run": things_from, "machine": things_from, "free": sort_from, "enders": no_words,
    "groups": no_words, "order": no_words, "depth": one_place_from, "show": no_words,
}


def row_in(row):
    """A tuple (first word, the names behind it, what the other words are)."""
    check_row(isinstance(row, str))
    word, *words = row.split(" ")
    check_row(word in NAMES)
    count = NAMES[word]
    check_row(len(words) >= count)
    read_tail = TAILS[word]
    return (word, [name_from(name) for name in words[:count]], read_tail(words[count:]))
