"""Conditions of rules: which values are some, when they hold, what stands in them."""

from mailrings.names import is_name, is_name_tuple, is_subject, is_text

MOST_DEEP = 4
MOST_CONDITIONS = 8
MOST_CHARACTERS_IS = 8
TEXT_WORDS = ("contains", "begins", "ends")
TEST_WORDS = ("contains", "begins", "ends", "is")
GROUP_WORDS = ("all", "any")


def is_single(word, part):
    """Return whether a word and what stands behind it are a condition that can have no others in it."""
    if word == "from":
        return is_name_tuple(part) and len(part) > 0
    if word == "marked":
        return is_name(part)
    if word == "is":
        return is_subject(part) and len(part) <= MOST_CHARACTERS_IS
    return word in TEXT_WORDS and is_text(part)


def is_condition_within(value, deep):
    """Return whether any value is a condition that is at most so deep."""
    # The depth is asked first, so that values of any depth are not followed to their ground.
    if deep == 0 or not isinstance(value, tuple) or len(value) != 2:
        return False
    word, part = value
    if word == "not":
        return is_condition_within(part, deep - 1)
    if word in GROUP_WORDS:
        return are_conditions_within(part, deep - 1)
    return is_single(word, part)


def are_conditions_within(value, deep):
    """Return whether any value is a tuple of at most 8 conditions that are at most so deep."""
    if not isinstance(value, tuple) or len(value) > MOST_CONDITIONS:
        return False
    return all([is_condition_within(inner, deep) for inner in value])


def is_condition(value):
    """Return whether any value is a condition."""
    return is_condition_within(value, MOST_DEEP)


def subject_passes(word, text, subject):
    """Return the result of a test for a subject."""
    if word == "contains":
        return text in subject
    if word == "begins":
        return subject.startswith(text)
    if word == "ends":
        return subject.endswith(text)
    return subject == text


def single_holds(word, part, message):
    """Return whether a condition that can have no others in it holds for a message."""
    sender, _, subject, marks = message
    if word == "from":
        return sender in part
    if word == "marked":
        return part in marks
    return subject_passes(word, part, subject)


def holds(condition, message):
    """Return whether a condition holds for a message."""
    word, part = condition
    if word == "not":
        return not holds(part, message)
    if word in GROUP_WORDS:
        # The first one that decides is enough; houses have many messages to ask about.
        for inner in part:
            if holds(inner, message) != (word == "all"):
                return word == "any"
        return word == "all"
    return single_holds(word, part, message)


def singles_of(condition):
    """Return the list of the tuples (word, part) of the conditions in it that can have no others in them."""
    word, part = condition
    if word == "not":
        return singles_of(part)
    if word in GROUP_WORDS:
        return [single for inner in part for single in singles_of(inner)]
    return [(word, part)]


def tests_of(condition):
    """Return the list of the tests on subjects in a condition, as (word, text), ascending, each once."""
    return sorted({(word, part) for word, part in singles_of(condition) if word in TEST_WORDS})


def marks_of(condition):
    """Return the list of the names that a condition asks as marks, ascending, each once."""
    return sorted({part for word, part in singles_of(condition) if word == "marked"})


def names_of(condition):
    """Return the list of the names in "from" in a condition, ascending, each once."""
    return sorted({name for word, part in singles_of(condition) if word == "from" for name in part})
