"""Arrivals: what happens to a message at its address, and what comes of it hop by hop."""

from mailrings.conditions import holds
from mailrings.errors import BadMessage
from mailrings.houses import is_place
from mailrings.names import as_message, is_message, with_mark

INBOX = "inbox"
REPLY_MARK = "auto"


def at_mailbox(rules, message):
    """Return (places of the rules that fire, filings, copies) of a message that arrives at a mailbox with these rules.

    Each filing is a tuple of the folder and the message as it is then, each copy one of the cut that would take it out
    and the message that is sent.
    """
    sender, address, subject, marks = message
    fired, filed, sent = [], [], []
    end = ""
    for place, (condition, actions) in enumerate(rules):
        if not holds(condition, (sender, address, subject, marks)):
            continue
        fired.append(place)
        for number, action in enumerate(actions):
            word, part = action[0], action[-1]
            cut = ("sent", address, place, number)
            if word == "file":
                filed.append((part, (sender, address, subject, marks)))
            elif word == "forward":
                sent.append((cut, (sender, part, subject, marks)))
            elif word == "reply":
                sent.append((cut, (address, sender, part + subject, with_mark(marks, REPLY_MARK))))
            elif word == "tag":
                subject = part + subject
            elif word == "mark":
                marks = with_mark(marks, part)
            else:
                end = word
        if end:
            break
    if not filed and end != "drop":
        filed.append((INBOX, (sender, address, subject, marks)))
    return fired, filed, sent


def at_list(what, message):
    """Return the copies, each with its cut, of a message that arrives at a list with (members, tag, mark, closed)."""
    members, tag, mark, closed = what
    sender, address, subject, marks = message
    if closed and sender not in members:
        return []
    if tag not in subject:
        subject = tag + subject
    if mark:
        marks = with_mark(marks, mark)
    return [(("member", address, member), (sender, member, subject, marks)) for member in members]


def arrival_at(house, message):
    """Return (places of the rules that fire, filings, copies with their cuts) of a message to an address of a house."""
    sender, address, subject, marks = message
    sort, what = house.entry_of(address)
    if sort == "mailbox":
        return at_mailbox(what, message)
    if sort == "list":
        return [], [], at_list(what, message)
    return [], [], [(("alias", address), (sender, what, subject, marks))]


def arrives(house, message):
    """Return whether the address of a message is in a house."""
    return house.entry_of(message[1]) is not None


def offspring_of(house, message):
    """Return the list of the offspring of a message, none if it leaves."""
    if not arrives(house, message):
        return []
    fired, filed, sent = arrival_at(house, message)
    return [copy for cut, copy in sent]


def arrive(house, message):
    """Return (the folders in which a message is filed when it arrives, its offspring), both in sequence."""
    if not is_message(message) or not arrives(house, message):
        raise BadMessage(message)
    fired, filed, sent = arrival_at(house, message)
    return [folder for folder, _ in filed], [copy for cut, copy in sent]


def firing(house, message):
    """Return the tuple of the places of the rules that fire when a message arrives at a mailbox."""
    if not is_message(message):
        raise BadMessage(message)
    fired, filed, sent = at_mailbox(house.rules_of(message[1]), message)
    return tuple(fired)


def after_hops(house, message, hops):
    """Return the list of the messages on their way after a number of hops, in sequence."""
    now = [as_message(message)]
    left = hops
    # The messages of an earlier hop are kept and compared: those that come again go on coming, however many hops are
    # left. What is kept is exchanged ever more rarely, so that a ring of any length is found.
    kept, since, span = now, 0, 1
    while now and left > 0:
        now = [copy for one in now for copy in offspring_of(house, one)]
        left -= 1
        since += 1
        if now == kept:
            left = left % since
        if since == span:
            kept, since, span = now, 0, span * 2
    return now


def walk_along(house, message, places):
    """Return the messages from one on, each at the next place among the offspring of the one before it.

    None if there is no such place, or if one does not arrive.
    """
    walk = [message]
    for place in places:
        sent = offspring_of(house, walk[-1])
        if not is_place(place, len(sent)) or not arrives(house, sent[place]):
            return None
        walk.append(sent[place])
    return walk


def is_walk(house, value):
    """Return whether any value is a list of one message or more, each of the offspring of the one before it."""
    if not isinstance(value, list) or not value or not all([is_message(message) for message in value]):
        return False
    return all([message in offspring_of(house, before) for before, message in zip(value, value[1:])])
