"""Houses: mailboxes with their rules, lists with their members, and aliases."""

from mailrings.conditions import is_condition
from mailrings.errors import BadHouse, BadName, BadPlace, BadRule, TakenName, UnknownName
from mailrings.names import is_name, is_text

MOST_ACTIONS = 6
MOST_RULES = 10
MOST_MEMBERS = 8
MOST_ADDRESSES = 20
NAME_WORDS = ("file", "forward", "mark")
TEXT_WORDS = ("tag", "reply")
SENDING_WORDS = ("forward", "reply")
END_WORDS = ("drop", "stop")
# What an alias becomes that is cut: an open list without members, tag and mark.
EMPTY_LIST = ("list", ((), "", "", False))


def is_end(value):
    """Return whether any value is a drop or a stop."""
    return isinstance(value, tuple) and len(value) == 1 and value[0] in END_WORDS


def is_deed(value):
    """Return whether any value is an action behind which others may stand."""
    if not isinstance(value, tuple) or len(value) != 2:
        return False
    word, part = value
    if word in NAME_WORDS:
        return is_name(part)
    return word in TEXT_WORDS and is_text(part)


def are_actions(value):
    """Return whether any value is a tuple of at most 6 actions, of which only the last one may be a drop or a stop."""
    return (
        isinstance(value, tuple)
        and len(value) <= MOST_ACTIONS
        and all([is_deed(action) for action in value[:-1]])
        and all([is_deed(action) or is_end(action) for action in value[-1:]])
    )


def is_rule(value):
    """Return whether any value is a rule: a tuple of a condition and a tuple of actions."""
    return isinstance(value, tuple) and len(value) == 2 and is_condition(value[0]) and are_actions(value[1])


def is_count(value):
    """Return whether any value is an integer from 0 on."""
    return isinstance(value, int) and not isinstance(value, bool) and value >= 0


def is_place(value, many):
    """Return whether any value is a place among so many."""
    return is_count(value) and value < many


def need_rules(rules):
    """Return rules, of any values, as a tuple, or raise an error if a mailbox cannot have them."""
    for rule in rules:
        if not is_rule(rule):
            raise BadRule(rule)
    if len(rules) > MOST_RULES:
        raise BadHouse(tuple(rules))
    return tuple(rules)


def are_members(value):
    """Return whether any value is a tuple of at most 8 different names."""
    return (
        isinstance(value, tuple)
        and len(value) <= MOST_MEMBERS
        and all([is_name(name) for name in value])
        and len(set(value)) == len(value)
    )


def need_list(what):
    """Raise an error if a tuple (members, tag, mark, closed) of any values is not what a list can have."""
    members, tag, mark, closed = what
    if not (
        are_members(members)
        and (is_text(tag) or tag == "")
        and (is_name(mark) or mark == "")
        and isinstance(closed, bool)
    ):
        raise BadHouse(what)


def rules_after_cuts(name, rules, cuts):
    """Return the rules of a mailbox without the actions that a dict of cuts takes out."""
    return tuple([
        (condition, tuple([
            action for number, action in enumerate(actions) if ("sent", name, place, number) not in cuts
        ]))
        for place, (condition, actions) in enumerate(rules)
    ])


def entry_after_cuts(name, sort, what, cuts):
    """Return the tuple (sort, what it has) of an address after a dict of cuts is done."""
    if sort == "mailbox":
        return sort, rules_after_cuts(name, what, cuts)
    if sort == "list":
        members, tag, mark, closed = what
        return sort, (tuple([member for member in members if ("member", name, member) not in cuts]), tag, mark, closed)
    return EMPTY_LIST if ("alias", name) in cuts else (sort, what)


class House:
    """Addresses, each a mailbox with rules, a list with members, or an alias with a target."""

    def __init__(self):
        # From each address to its sort and what it has: rules, (members, tag, mark, closed), or a target.
        self._entries = {}
        # What others worked out about the house as it is; each change empties it.
        self.memory = {}

    def _put(self, name, entry):
        self._entries[name] = entry
        self.memory = {}

    def _need_new(self, name):
        if not is_name(name):
            raise BadName(name)
        if name in self._entries:
            raise TakenName(name)

    def _need_room(self, name):
        if len(self._entries) >= MOST_ADDRESSES:
            raise BadHouse(name)

    def _has(self, name):
        # A value that is no name may be one that no dict can be asked for.
        return is_name(name) and name in self._entries

    def _need(self, name, sort):
        if not self._has(name) or self._entries[name][0] != sort:
            raise UnknownName(name)
        return self._entries[name][1]

    def add_mailbox(self, name, rules=()):
        """Add a mailbox with rules."""
        self._need_new(name)
        what = need_rules(rules)
        self._need_room(name)
        self._put(name, ("mailbox", what))

    def add_list(self, name, members, *, tag="", mark="", closed=False):
        """Add a list with members."""
        self._need_new(name)
        need_list((members, tag, mark, closed))
        self._need_room(name)
        self._put(name, ("list", (members, tag, mark, closed)))

    def add_alias(self, name, target):
        """Add an alias with a target."""
        self._need_new(name)
        if not is_name(target):
            raise BadName(target)
        self._need_room(name)
        self._put(name, ("alias", target))

    def remove(self, name):
        """Take an address out."""
        if not self._has(name):
            raise UnknownName(name)
        del self._entries[name]
        self.memory = {}

    def set_rules(self, name, rules):
        """Put other rules into a mailbox."""
        self._need(name, "mailbox")
        self._put(name, ("mailbox", need_rules(rules)))

    def set_list(self, name, members, *, tag="", mark="", closed=False):
        """Put another list in the place of a list."""
        self._need(name, "list")
        need_list((members, tag, mark, closed))
        self._put(name, ("list", (members, tag, mark, closed)))

    @property
    def addresses(self):
        """The list of the addresses, ascending."""
        return sorted(self._entries)

    def entry_of(self, name):
        """Return the tuple (sort, what it has) of a name, None if it is outside."""
        return self._entries.get(name)

    def sort_of(self, name):
        """Return "mailbox", "list" or "alias"."""
        if not self._has(name):
            raise UnknownName(name)
        return self._entries[name][0]

    def rules_of(self, name):
        """Return the tuple of the rules of a mailbox."""
        return self._need(name, "mailbox")

    def list_of(self, name):
        """Return the tuple (members, tag, mark, closed) of a list."""
        return self._need(name, "list")

    def target_of(self, name):
        """Return the target of an alias."""
        return self._need(name, "alias")

    def copied(self):
        """Return an equal house."""
        house = House()
        for name in self.addresses:
            house._put(name, self._entries[name])
        return house

    def __eq__(self, other):
        return isinstance(other, House) and self._entries == other._entries

    def _with_rules(self, name, rules):
        house = self.copied()
        house.set_rules(name, rules)
        return house

    def without_rule(self, name, place):
        """Return a new house without a rule of a mailbox."""
        rules = self._need(name, "mailbox")
        if not is_place(place, len(rules)):
            raise BadPlace(place)
        return self._with_rules(name, rules[:place] + rules[place + 1:])

    def with_rules_changed(self, name, place):
        """Return a new house in which the rules at a place and the next one have changed places."""
        rules = self._need(name, "mailbox")
        if not is_place(place, len(rules) - 1):
            raise BadPlace(place)
        return self._with_rules(name, rules[:place] + (rules[place + 1], rules[place]) + rules[place + 2:])

    def _is_sending(self, name, place, number):
        rules = self._need(name, "mailbox")
        if not is_place(place, len(rules)):
            return False
        _, actions = rules[place]
        return is_place(number, len(actions)) and actions[number][0] in SENDING_WORDS

    def _is_cut(self, value):
        if not isinstance(value, tuple) or len(value) < 2 or not self._has(value[1]):
            return False
        word, name, *parts = value
        sort, what = self._entries[name]
        if word == "sent":
            return sort == "mailbox" and len(parts) == 2 and self._is_sending(name, parts[0], parts[1])
        if word == "member":
            return sort == "list" and len(parts) == 1 and parts[0] in what[0]
        return word == "alias" and sort == "alias" and not parts

    def with_cuts(self, cuts):
        """Return a new house with all cuts done."""
        done = {}
        for cut in cuts:
            if not self._is_cut(cut) or cut in done:
                raise BadPlace(cut)
            done[cut] = True
        house = House()
        for name in self.addresses:
            sort, what = self._entries[name]
            house._put(name, entry_after_cuts(name, sort, what, done))
        return house
