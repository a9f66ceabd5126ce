"""Machines: which subjects are alike for tests, whatever is put in front of them."""

from mailrings.conditions import subject_passes, tests_of

# All signs of subjects, in the order in which Python compares them.
SIGNS = " !\"#$&'()*+,-./0123456789:;<=>?@ABCDEFGHIJKLMNOPQRSTUVWXYZ[\\]^_`abcdefghijklmnopqrstuvwxyz{|}~"
# The words of tests that do not ask what stands behind the text, and of those that once they hold go on to hold.
FRONT_WORDS = ("contains", "begins")
LASTING_WORDS = ("contains", "ends")


def house_tests(house):
    """Return the list of the tests of a house, as (word, text), ascending, each once."""
    found = []
    for name in house.addresses:
        sort, what = house.entry_of(name)
        if sort == "mailbox":
            for condition, _ in what:
                found.extend(tests_of(condition))
        elif sort == "list":
            members, tag, mark, closed = what
            if tag:
                found.append(("contains", tag))
    return sorted(set(found))


def signs_of(tests):
    """Return (signs, other): the signs in the texts of tests and the least other one, which stands for all others.

    The signs are ascending; the second is the place of the other one among them, or 0 if there is none.
    """
    used = {sign: True for word, text in tests for sign in text}
    free = [sign for sign in SIGNS if sign not in used][:1]
    signs = sorted([*used, *free])
    other = signs.index(free[0]) if free else 0
    return signs, other


class Tails:
    """The states of subjects, each a number: two subjects are alike for the tests exactly if their states are equal.

    Each test has a block of bits, one for each tail of its text, from the empty one to the whole text. A bit of
    "contains" or "begins" tells that the subject begins with the tail, one of "ends" or "is" that it is the tail. For
    each of these there is something to put in front (what the tail lacks) that tells it by the test's result. But
    nothing that is put in front matters any more for a test that goes on to hold: then the whole text's bit stays,
    and the rest of the block is empty.
    """

    def __init__(self, tests):
        self.first = 0
        self._always = 0
        self._lasting = 0
        self._blocks = []
        self._fitting = {}
        self._settled = {}
        low = 1
        for word, text in tests:
            self._add_block(word, text, low)
            low = low << (len(text) + 1)
        self.first = self._without_settled(self.first)

    def _add_block(self, word, text, low):
        whole = low << len(text)
        self.first |= low
        if word in FRONT_WORDS:
            self._always |= low
        if word in LASTING_WORDS:
            self._lasting |= whole
            self._blocks.append((whole, whole - low))
        bit = low
        for sign in reversed(text):
            bit = bit << 1
            self._fitting[sign] = self._fitting.get(sign, 0) | bit

    def _without_settled(self, bits):
        settled = bits & self._lasting
        if settled not in self._settled:
            self._settled[settled] = sum([rest for whole, rest in self._blocks if whole & settled])
        return bits & ~self._settled[settled]

    def before(self, state, sign):
        """Return the state of a subject that has a state, with a sign put in front."""
        grown = (state << 1) & self._fitting.get(sign, 0)
        return self._without_settled(grown | self._always | (state & self._lasting))


def all_states(tails, signs):
    """Return (subjects, rows): the least subject of each state, and for each the places of those with each sign before.

    Subjects grow by one sign in each round, the sign in front first, so that the first one of a state is the least.
    """
    states, places = [tails.first], {tails.first: 0}
    subjects, rows = [""], [[]]
    begin = 0
    while begin < len(states):
        end = len(states)
        for sign in signs:
            for place in range(begin, end):
                state = tails.before(states[place], sign)
                if state not in places:
                    places[state] = len(states)
                    states.append(state)
                    subjects.append(sign + subjects[place])
                    rows.append([])
                rows[place].append(places[state])
        begin = end
    return subjects, rows


class Machine:
    """Which subjects are alike for a list of tests (word, text)."""

    def __init__(self, tests):
        self._tests = [(word, text) for word, text in tests]
        signs, self._other = signs_of(self._tests)
        self._columns = {sign: column for column, sign in enumerate(signs)}
        self._subjects, self._rows = all_states(Tails(sorted(set(self._tests))), signs)

    def _place_before(self, place, text):
        for sign in reversed(text):
            place = self._rows[place][self._columns.get(sign, self._other)]
        return place

    def _place(self, subject):
        return self._place_before(0, subject)

    @property
    def subjects(self):
        """The list of the least subjects of all lots of subjects that are alike, in order."""
        return list(self._subjects)

    def least(self, subject):
        """Return the least subject that is alike."""
        return self._subjects[self._place(subject)]

    def put(self, subject, text):
        """Return the least subject that is alike to a subject with a text in front of it."""
        return self._subjects[self._place_before(self._place(subject), text)]

    def results(self, subject):
        """Return the list of the results of the tests for a subject, in their sequence."""
        return [subject_passes(word, text, subject) for word, text in self._tests]

    def are_alike(self, first, second):
        """Return whether two subjects are alike."""
        return self._place(first) == self._place(second)


def apart(tests, first, second):
    """Return the shortest, then least text to put in front of two subjects by which some test has different results.

    None if they are alike. A shortest one is the front of the text of the very test whose results differ: what stands
    before the place where the test finds its text could be left out.
    """
    found = [
        text[:many] for word, text in tests for many in range(len(text) + 1)
        if subject_passes(word, text, text[:many] + first) != subject_passes(word, text, text[:many] + second)
    ]
    return min(found, key=lambda front: (len(front), front), default=None)
