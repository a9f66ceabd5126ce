"""Works: houses with mail on its way, which arrives step by step and can be taken back."""

from mailrings.arrivals import arrival_at, arrives
from mailrings.errors import BadMessage, NothingWaiting
from mailrings.graphs import endless_nodes
from mailrings.houses import is_count
from mailrings.kinds import kinds_of
from mailrings.names import is_message
from mailrings.numbers import added, filings_in, leavings_in, numbers_of


class Work:
    """A house at work: what is on its way, what was filed and what has left."""

    def __init__(self, house):
        self._house = house.copied()
        # From each number of what is on its way to the message.
        self._waiting = {}
        self._next = 1
        self._filed = []
        self._left = []
        # For each deed, what was there before it: see _begin.
        self._deeds = []

    def _begin(self, number, message):
        # What comes later than this is taken away when the deed is undone; the message that it takes is put back.
        self._deeds.append((self._house, self._next, len(self._filed), len(self._left), number, message))

    def _undo(self):
        house, first, filed, left, number, message = self._deeds.pop()
        for later in range(first, self._next):
            del self._waiting[later]
        if number > 0:
            self._waiting[number] = message
        del self._filed[filed:]
        del self._left[left:]
        self._house = house
        self._next = first

    def _put(self, message):
        number = self._next
        self._waiting[number] = message
        self._next = number + 1
        return number

    def send(self, message):
        """Put a message on its way and return its number."""
        if not is_message(message):
            raise BadMessage(message)
        self._begin(0, None)
        return self._put(message)

    def waiting(self):
        """Return the list of the tuples (number, message) of what is on its way, ascending."""
        return [(number, self._waiting[number]) for number in sorted(self._waiting)]

    def step(self, number):
        """Let a message arrive or leave, and return the list of the numbers of its offspring."""
        if not is_count(number) or number not in self._waiting:
            raise NothingWaiting(number)
        message = self._waiting[number]
        self._begin(number, message)
        del self._waiting[number]
        if not arrives(self._house, message):
            self._left.append(message)
            return []
        fired, filed, sent = arrival_at(self._house, message)
        self._filed.extend([(message[1], folder, then) for folder, then in filed])
        return [self._put(copy) for cut, copy in sent]

    def filed(self):
        """Return the list of the tuples (mailbox, folder, message as it was then) of what was filed, in sequence."""
        return list(self._filed)

    def left(self):
        """Return the list of the messages that left, in sequence."""
        return list(self._left)

    def house_now(self):
        """Return a copy of the house as it is now."""
        return self._house.copied()

    def change(self, house):
        """Put another house in the place of the house."""
        self._begin(0, None)
        self._house = house.copied()

    def expected(self):
        """Return (filings, leavings): two dicts of the numbers that there will be in the end, if the house stays."""
        numbers = {}
        for mailbox, folder, _ in self._filed:
            numbers[("filed", mailbox, folder)] = numbers.get(("filed", mailbox, folder), 0) + 1
        for _, address, _, _ in self._left:
            numbers[("left", address)] = numbers.get(("left", address), 0) + 1
        for message in list(self._waiting.values()):
            for key, number in numbers_of(self._house, message).items():
                numbers[key] = added(numbers.get(key, 0), number)
        return filings_in(numbers), leavings_in(numbers)

    def run(self, most):
        """Do steps, always for the least number, until nothing waits or so many are done; return how many were done."""
        # Offspring get greater numbers than all that waits, so they come last.
        numbers = sorted(self._waiting)
        done = 0
        while done < most and done < len(numbers):
            numbers.extend(self.step(numbers[done]))
            done += 1
        return done

    def is_safe_change(self, house):
        """Return whether all that waits would have finitely many arrivals, with another house in the place of this."""
        kinds = kinds_of(house)
        starts = [kinds.kind(message) for message in list(self._waiting.values()) if arrives(house, message)]
        return not endless_nodes(kinds.links_from(starts))

    def back(self, many):
        """Undo the last deeds, so many or all, and return how many."""
        undone = 0
        while undone < many and self._deeds:
            self._undo()
            undone += 1
        return undone
