"""Names, subjects, texts and messages, and the order of messages."""

LETTERS = "abcdefghijklmnopqrstuvwxyz"
MOST_LETTERS = 12
MOST_CHARACTERS = 8
FIRST_CODE = 32
LAST_CODE = 126
PERCENT_CODE = 37


def is_name(value):
    """Return whether any value is a name: 1 to 12 letters a to z."""
    return (
        isinstance(value, str)
        and 1 <= len(value) <= MOST_LETTERS
        and all(["a" <= letter <= "z" for letter in value])
    )


def is_name_tuple(value):
    """Return whether any value is a tuple of different names, ascending."""
    return (
        isinstance(value, tuple)
        and all([is_name(name) for name in value])
        and all([one < other for one, other in zip(value, value[1:])])
    )


def is_subject_code(code):
    """Return whether a subject may have the character with this code."""
    return FIRST_CODE <= code <= LAST_CODE and code != PERCENT_CODE


def is_subject(value):
    """Return whether any value is a subject, of any number of characters."""
    # Subjects of walks are long, but their different characters are few.
    return isinstance(value, str) and all([is_subject_code(ord(sign)) for sign in sorted(set(value))])


def is_text(value):
    """Return whether any value is a text: a subject of 1 to 8 characters."""
    return is_subject(value) and 1 <= len(value) <= MOST_CHARACTERS


def is_message(value):
    """Return whether any value is a message, with however many marks."""
    if not isinstance(value, tuple) or len(value) != 4:
        return False
    sender, address, subject, marks = value
    return is_name(sender) and is_name(address) and is_subject(subject) and is_name_tuple(marks)


def as_message(message):
    """Return a message, in which lists may stand for tuples, as the tuple that it is."""
    sender, address, subject, marks = message
    return (sender, address, subject, tuple(marks))


def message_key(message):
    """Return the tuple by which Python sorts messages in their order."""
    sender, address, subject, marks = message
    return (len(subject), subject, len(marks), tuple(marks), address, sender)


def next_name(name):
    """Return the least name that is greater than a name."""
    if len(name) < MOST_LETTERS:
        return name + "a"
    # Nothing begins with a whole name of 12 letters, so a letter that is not z grows, and what is behind it goes.
    stem = name.rstrip("z")
    return stem[:-1] + LETTERS[LETTERS.index(stem[-1]) + 1]


def strange_name(names):
    """Return the least name that is none of the names."""
    taken = set(names)
    name = "a"
    while name in taken:
        name = next_name(name)
    return name


def with_mark(marks, mark):
    """Return the marks with one more, as a tuple, ascending, each once."""
    return tuple(sorted(set([*marks, mark])))
