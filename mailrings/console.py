"""A console: commands in words for a house at work."""

from mailrings.errors import BadCommand, BadText
from mailrings.firing import idle_rules
from mailrings.houses import House
from mailrings.numbers import arrivals, filings, leavings, total
from mailrings.rings import first_endless
from mailrings.storms import growth
from mailrings.texts import house_text, message_text, read_house, read_message
from mailrings.works import Work

MOST_FIGURES = 60
FIGURES = "0123456789"


def is_number_text(text):
    """Return whether a text is a number: at most 60 figures, the first of several no zero."""
    return (
        1 <= len(text) <= MOST_FIGURES
        and all([figure in FIGURES for figure in text])
        and (text == "0" or text[0] != "0")
    )


def spaced(numbers):
    """Return numbers separated by spaces, or "none"."""
    return " ".join([str(number) for number in numbers]) if numbers else "none"


def told(number):
    """Return the text of a number that may be endless."""
    return "endless" if number is None else str(number)


def count_answer(house, message):
    """Return the number of arrivals of a message and the sums of filings and of leavings."""
    filed, left = filings(house, message), leavings(house, message)
    numbers = [arrivals(house, message), total(list(filed.values())), total(list(left.values()))]
    return " ".join([told(number) for number in numbers])


def growth_answer(house, message):
    """Return how fast what comes of a message grows."""
    found = growth(house, message)
    return "ends" if found is None else str(found)


def endless_answer(house):
    """Return the text of the least message with endless arrivals, or "none"."""
    message = first_endless(house)
    return "none" if message is None else message_text(message)


def idle_answer(house):
    """Return the rules that never fire, or "none"."""
    return ", ".join([f"{name} {place}" for name, place in idle_rules(house)]) or "none"


class Console:
    """A work that is told by commands what to do, with an empty house at first."""

    def __init__(self):
        # The house as it is in the work, so that what is worked out about it is kept from command to command.
        self._house = House()
        self._work = Work(self._house)

    def __call__(self, command):
        """Execute a command and return its answer."""
        if not isinstance(command, str):
            raise BadCommand(command)
        word, blank, rest = command.partition(" ")
        if word in ("mail", "endless", "idle", "house") and not blank:
            return self._answer_alone(word)
        if word in ("load", "change") and blank:
            return self._answer_for_house(word, self._read_house(rest, command))
        if word in ("send", "count", "growth"):
            return self._answer_for_message(word, self._read_message(rest, command))
        if word in ("step", "run") and is_number_text(rest):
            return self._answer_for_number(word, int(rest))
        raise BadCommand(command)

    def _read_house(self, text, command):
        try:
            return read_house(text)
        except BadText:
            raise BadCommand(command) from None

    def _read_message(self, text, command):
        try:
            return read_message(text)
        except BadText:
            raise BadCommand(command) from None

    def _answer_alone(self, word):
        if word == "mail":
            return spaced([number for number, _ in self._work.waiting()])
        if word == "endless":
            return endless_answer(self._house)
        if word == "idle":
            return idle_answer(self._house)
        return house_text(self._house)

    def _answer_for_house(self, word, house):
        if word == "load":
            self._work = Work(house)
        else:
            self._work.change(house)
        self._house = house
        return "ok"

    def _answer_for_message(self, word, message):
        if word == "send":
            return str(self._work.send(message))
        if word == "count":
            return count_answer(self._house, message)
        return growth_answer(self._house, message)

    def _answer_for_number(self, word, number):
        if word == "step":
            return spaced(self._work.step(number))
        return str(self._work.run(number))
