"""Wishes: what the number of a message for a measure is to be, and the least message for which it is not."""

from mailrings.conditions import holds, is_condition
from mailrings.errors import BadWish
from mailrings.houses import is_count
from mailrings.kinds import messages_to
from mailrings.names import is_name_tuple, message_key
from mailrings.numbers import is_measure, measured, numbers_of


def is_wish(value):
    """Return whether any value is a wish: a tuple (addresses, condition, measure, low, high)."""
    if not isinstance(value, tuple) or len(value) != 5:
        return False
    addresses, condition, what, low, high = value
    return (
        is_name_tuple(addresses)
        and len(addresses) > 0
        and is_condition(condition)
        and is_measure(what)
        and is_count(low)
        and (high is None or is_count(high))
    )


def need_wish(value):
    """Raise an error if any value is not a wish."""
    if not is_wish(value):
        raise BadWish(value)


def is_within(number, low, high):
    """Return whether a number, which may be endless, is at least low and at most high, if that is not None."""
    if number is None:
        return high is None
    return low <= number and (high is None or number <= high)


def has_number_wished(house, wish, message):
    """Return whether the number of a message is as a wish tells it, whatever its address and its condition are."""
    _, _, what, low, high = wish
    return is_within(measured(numbers_of(house, message), what), low, high)


def wish_holds(house, wish, message):
    """Return whether a wish holds for a message."""
    need_wish(wish)
    return (
        message[1] not in wish[0]
        or not holds(wish[1], message)
        or has_number_wished(house, wish, message)
    )


def broken(house, wish):
    """Return the least message for which a wish does not hold, or None."""
    need_wish(wish)
    addresses, condition, what, _, _ = wish
    # A sender for whom replies leave has another number for this than the other strange ones.
    asked = what[1:] if what[0] == "left" else ()
    for message in messages_to(house, addresses, condition, asked):
        if not has_number_wished(house, wish, message):
            return message
    return None


def broken_first(house, wishes):
    """Return (place, message): the least message that breaks some of the wishes, and the first one's place, or None."""
    found = [broken(house, wish) for wish in wishes]
    least = min([message for message in found if message is not None], key=message_key, default=None)
    # Another wish that this message breaks has no less one, so it has this one, too.
    return None if least is None else (found.index(least), least)
