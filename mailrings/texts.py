"""Texts of conditions, rules, houses and messages, and what is read from them."""

from mailrings.conditions import GROUP_WORDS, MOST_DEEP, is_condition
from mailrings.errors import BadText, MailError
from mailrings.houses import END_WORDS, NAME_WORDS, TEXT_WORDS, House, is_rule
from mailrings.names import is_message, is_name, is_text


def quoted(text):
    """Return a text or a subject between double quotes."""
    return '"' + text.replace("\\", "\\\\").replace('"', '\\"') + '"'


def joined(names):
    """Return names with commas between them, or - for none."""
    return ",".join(names) if names else "-"


def condition_text(condition):
    """Return the text of a condition."""
    word, part = condition
    if word == "from":
        return word + " " + joined(part)
    if word == "marked":
        return word + " " + part
    if word == "not":
        return word + " (" + condition_text(part) + ")"
    if word in GROUP_WORDS:
        return word + " (" + "; ".join([condition_text(inner) for inner in part]) + ")"
    return word + " " + quoted(part)


def action_text(action):
    """Return the text of an action."""
    word, part = action[0], action[-1]
    if word in END_WORDS:
        return word
    return word + " " + (quoted(part) if word in TEXT_WORDS else part)


def rule_text(rule):
    """Return the text of a rule."""
    condition, actions = rule
    told = ", ".join([action_text(action) for action in actions])
    return "when " + condition_text(condition) + ":" + (" " + told if told else "")


def list_text(name, what):
    """Return the line of a list that has (members, tag, mark, closed)."""
    members, tag, mark, closed = what
    return (
        "list " + name + " members " + joined(members)
        + (" tag " + quoted(tag) if tag else "")
        + (" mark " + mark if mark else "")
        + (" closed" if closed else "")
    )


def lines_of(house, name):
    """Return the list of the lines of an address of a house."""
    sort = house.sort_of(name)
    if sort == "mailbox":
        return ["mailbox " + name, *[rule_text(rule) for rule in house.rules_of(name)]]
    if sort == "list":
        return [list_text(name, house.list_of(name))]
    return ["alias " + name + " to " + house.target_of(name)]


def house_text(house):
    """Return the text of a house."""
    return "\n".join([line for name in house.addresses for line in lines_of(house, name)])


def message_text(message):
    """Return the text of a message."""
    sender, address, subject, marks = message
    return sender + " " + address + " " + joined(marks) + " " + quoted(subject)


class Reading:
    """A text that is read from its beginning to its end; what is not as told raises an error with the whole text."""

    def __init__(self, text):
        if not isinstance(text, str):
            raise BadText(text)
        self._text = text
        self._at = 0

    def begins(self, word):
        """Return whether what is left begins with a word."""
        return self._text.startswith(word, self._at)

    def took(self, word):
        """Read a word, if what is left begins with it, and return whether it did."""
        found = self.begins(word)
        if found:
            self._at += len(word)
        return found

    def need(self, fits):
        """Raise an error if something is not as told."""
        if not fits:
            raise BadText(self._text)

    def at_end(self):
        """Return whether nothing is left."""
        return self._at == len(self._text)

    def take_letters(self):
        """Read letters from a to z, as many as there are, and return them."""
        begin = self._at
        while not self.at_end() and "a" <= self._text[self._at] <= "z":
            self._at += 1
        return self._text[begin:self._at]

    def take_name(self):
        """Read a name and return it."""
        name = self.take_letters()
        self.need(is_name(name))
        return name

    def take_names(self):
        """Read one name or more with commas between them, and return them as a tuple."""
        names = [self.take_name()]
        while self.took(","):
            names.append(self.take_name())
        return tuple(names)

    def take_names_or_none(self):
        """Read names with commas between them, or - for none, and return them as a tuple."""
        return () if self.took("-") else self.take_names()

    def take_quoted(self):
        """Read what stands between double quotes and return it as it was before it was written so."""
        self.need(self.took('"'))
        signs = []
        while not self.took('"'):
            escaped = self.took("\\")
            self.need(not self.at_end())
            sign = self._text[self._at]
            self.need(not escaped or sign in '\\"')
            signs.append(sign)
            self._at += 1
        return "".join(signs)

    def take_conditions(self, deep):
        """Read conditions in parentheses, at most so deep, and return them as a tuple."""
        self.need(self.took("("))
        if self.took(")"):
            return ()
        inner = [self.take_condition(deep)]
        while self.took("; "):
            inner.append(self.take_condition(deep))
        self.need(self.took(")"))
        return tuple(inner)

    def take_condition(self, deep):
        """Read what is written as a condition, at most so deep, and return it, even if it has what none must have."""
        self.need(deep > 0)
        word = self.take_letters()
        self.need(self.took(" "))
        if word == "from":
            return word, self.take_names()
        if word == "marked":
            return word, self.take_name()
        if word == "not":
            inner = self.take_conditions(deep - 1)
            self.need(len(inner) == 1)
            return word, inner[0]
        if word in GROUP_WORDS:
            return word, self.take_conditions(deep - 1)
        return word, self.take_quoted()

    def take_action(self):
        """Read what is written as an action and return it, even if it has what none must have."""
        word = self.take_letters()
        if word in END_WORDS:
            return (word,)
        self.need(self.took(" "))
        if word in NAME_WORDS:
            return word, self.take_name()
        return word, self.take_quoted()

    def take_rule(self):
        """Read what is written as a rule and return it, even if it has what none must have."""
        self.need(self.took("when "))
        condition = self.take_condition(MOST_DEEP)
        self.need(self.took(":"))
        actions = []
        if self.took(" "):
            actions.append(self.take_action())
            while self.took(", "):
                actions.append(self.take_action())
        return condition, tuple(actions)

    def take_rules(self):
        """Read the lines of rules behind the line of a mailbox, and return the rules as a list."""
        rules = []
        while self.begins("\nwhen "):
            self.need(self.took("\n"))
            rules.append(self.take_rule())
        return rules

    def take_tag(self):
        """Read the tag of a list, if there is one, and return it."""
        if not self.took(" tag "):
            return ""
        tag = self.take_quoted()
        self.need(is_text(tag))
        return tag

    def take_address(self, house):
        """Read the lines of an address, which is greater than those before it, and add it to a house."""
        sort = self.take_letters()
        self.need(self.took(" "))
        name = self.take_name()
        self.need(name > max(house.addresses, default=""))
        if sort == "mailbox":
            house.add_mailbox(name, self.take_rules())
        elif sort == "list":
            self.need(self.took(" members "))
            members = self.take_names_or_none()
            tag = self.take_tag()
            mark = self.take_name() if self.took(" mark ") else ""
            house.add_list(name, members, tag=tag, mark=mark, closed=self.took(" closed"))
        else:
            self.need(sort == "alias" and self.took(" to "))
            house.add_alias(name, self.take_name())


def read_condition(text):
    """Return the condition that has a text."""
    reading = Reading(text)
    condition = reading.take_condition(MOST_DEEP)
    reading.need(reading.at_end() and is_condition(condition))
    return condition


def read_rule(text):
    """Return the rule that has a text."""
    reading = Reading(text)
    rule = reading.take_rule()
    reading.need(reading.at_end() and is_rule(rule))
    return rule


def read_house(text):
    """Return the house that has a text."""
    reading = Reading(text)
    house = House()
    if text == "":
        return house
    try:
        reading.take_address(house)
        while not reading.at_end():
            reading.need(reading.took("\n"))
            reading.take_address(house)
    except MailError:
        # What a house does not take in is in no text of one.
        raise BadText(text) from None
    return house


def read_message(text):
    """Return the message that has a text."""
    reading = Reading(text)
    sender = reading.take_name()
    reading.need(reading.took(" "))
    address = reading.take_name()
    reading.need(reading.took(" "))
    marks = reading.take_names_or_none()
    reading.need(reading.took(" "))
    message = (sender, address, reading.take_quoted(), marks)
    reading.need(reading.at_end() and is_message(message))
    return message
