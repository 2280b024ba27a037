"""One letter, spread so that liars can't have it unlike (section 6)."""

from liarslate.errors import BadCounts, BadHand, BadKind, BadLiar, BadLiars, BadNumber, BadStops, BadValue
from liarslate.posts import Post
from liarslate.terms import check_hand, is_from, is_hand, is_hands, is_integer

FEWEST_SPREAD = 2
MOST_SPREAD = 12
GREATEST_COUNT = 20
GREATEST_SPREAD = 99
MOST_USUAL_STOPS = 9
KINDS = ("said", "echo", "promise")


def is_counts(value):
    """Whether value is COUNTS."""
    if not isinstance(value, tuple) or len(value) != 3:
        return False
    return all([is_from(count, 1, GREATEST_COUNT) for count in value])


def is_spread(value):
    """Whether value is one that can be spread."""
    return is_from(value, 0, GREATEST_SPREAD)


def check_number(n):
    """Refuses what is no number of hands."""
    if not is_from(n, FEWEST_SPREAD, MOST_SPREAD):
        raise BadNumber(n)


def check_counts(counts):
    """Refuses what are no COUNTS."""
    if not is_counts(counts):
        raise BadCounts(counts)


def check_spread(n, counts, liars, first, value):
    """Refuses what no Spread can be made of."""
    check_number(n)
    check_counts(counts)
    if not is_hands(liars, n) or len(liars) == n:
        raise BadLiars(liars)
    check_hand(first, n)
    if first in liars and value is not None or first not in liars and not is_spread(value):
        raise BadValue(value)


def votes(told, value):
    """How many hands told this value, told being by hands what each one did."""
    return len([one for one in told.values() if one == value])


class Ear:
    """What one honest hand has of one letter: what it keeps of what it heard, and what it did itself."""

    def __init__(self, hand, counts, first):
        self.hand = hand
        self.counts = counts
        self.first = first
        self.told = None
        self.echo_from = {}
        self.promise_from = {}
        self.echoed = None
        self.promised = None
        self.took = None

    def hear(self, kind, sender, value):
        """Keeps what counts, and does what is due: a list of the (kind, value) that it sends to all others."""
        if kind == "said":
            if sender == self.first and self.told is None:
                self.told = value
        elif kind == "echo":
            self.echo_from.setdefault(sender, value)
        else:
            self.promise_from.setdefault(sender, value)
        return self.do_due(value)

    def do_due(self, value):
        """Does what is due, value being what was heard last: it alone can have become due by this.

        Each of the three can only make a later one due, never an earlier one: so going through them once is enough.
        """
        sends = self.due_echo()
        sends.extend(self.due_promise(value))
        self.do_due_take(value)
        return sends

    def due_echo(self):
        """Echoes what the first one said, if it has echoed nothing: what it sends."""
        if self.told is None or self.echoed is not None:
            return []
        self.echoed = self.told
        self.echo_from[self.hand] = self.told
        return [("echo", self.told)]

    def due_promise(self, value):
        """Promises the value, if enough hands echoed or promised it: what it sends."""
        e, r, _ = self.counts
        enough = votes(self.echo_from, value) >= e or votes(self.promise_from, value) >= r
        return self.promise(value) if enough and self.promised is None else []

    def promise(self, value):
        """Promises the value: what it sends."""
        self.promised = value
        self.promise_from[self.hand] = value
        return [("promise", value)]

    def do_due_take(self, value):
        """Takes the value, if enough hands promised it."""
        if votes(self.promise_from, value) >= self.counts[2] and self.took is None:
            self.took = value


class Spread:
    """One letter, the first one's, on its way to n hands some of whom lie."""

    def __init__(self, n, counts, liars, first, value):
        check_spread(n, counts, liars, first, value)
        self.n = n
        self.counts = counts
        self.liars = liars
        self.first = first
        self._value = value
        self._ears = [Ear(hand, counts, first) for hand in range(n)]
        self._post = Post()
        self._log = []
        if first not in liars:
            self._put_to_all(first, "said", value)
            self._hear(first, first, "said", value)

    def __eq__(self, other):
        return (
            isinstance(other, Spread)
            and self.n == other.n
            and self.counts == other.counts
            and self.liars == other.liars
            and self.first == other.first
            and self._value == other._value
            and self._log == other._log
        )

    def __len__(self):
        return len(self._log)

    @property
    def under_way(self):
        """The ascending tuple of (number, from, to, kind, value)."""
        slips = self._post.slips
        return tuple([(number, *slips[number]) for number in sorted(slips)])

    @property
    def echoes(self):
        """What each hand echoed."""
        return tuple([ear.echoed for ear in self._ears])

    @property
    def promises(self):
        """What each hand promised."""
        return tuple([ear.promised for ear in self._ears])

    @property
    def takings(self):
        """What each hand took."""
        return tuple([ear.took for ear in self._ears])

    @property
    def log(self):
        """What was done."""
        return tuple(self._log)

    def _is_honest(self, hand):
        return is_hand(hand, self.n) and hand not in self.liars

    def _put_to_all(self, sender, kind, value):
        for to in range(self.n):
            if to != sender and to not in self.liars:
                self._post.put((sender, to, kind, value))

    def _hear(self, hand, sender, kind, value):
        for due_kind, due_value in self._ears[hand].hear(kind, sender, value):
            self._put_to_all(hand, due_kind, due_value)

    def deliver(self, number):
        """The slip with this number is heard."""
        sender, to, kind, value = self._post.pull(number)
        self._log.append(("deliver", number))
        self._hear(to, sender, kind, value)

    def lie(self, liar, to, kind, value):
        """Puts such a slip of a liar: its number."""
        if not is_integer(liar) or liar not in self.liars:
            raise BadLiar(liar)
        if not self._is_honest(to):
            raise BadHand(to)
        if not isinstance(kind, str) or kind not in KINDS:
            raise BadKind(kind)
        if not is_spread(value):
            raise BadValue(value)
        self._log.append(("lie", liar, to, kind, value))
        return self._post.put((liar, to, kind, value))

    def rest(self):
        """Delivers slips, the least number first, until none is under way: how many."""
        many = 0
        while self._post.slips:
            self.deliver(self._post.least())
            many += 1
        return many

    def heard(self, hand):
        """What counts of what an honest hand heard: (said, echoes, promises)."""
        if not self._is_honest(hand):
            raise BadHand(hand)
        ear = self._ears[hand]
        return (ear.told, tuple(sorted(ear.echo_from.items())), tuple(sorted(ear.promise_from.items())))

    def copy(self):
        """An equal Spread by itself."""
        twin = Spread(self.n, self.counts, self.liars, self.first, self._value)
        for deed in self.log:
            if deed[0] == "deliver":
                twin.deliver(deed[1])
            else:
                twin.lie(deed[1], deed[2], deed[3], deed[4])
        return twin


def usual(n, t):
    """The usual COUNTS of n hands, t of whom may lie."""
    check_number(n)
    if not is_from(t, 0, MOST_USUAL_STOPS) or t >= n:
        raise BadStops(t)
    return ((n + t) // 2 + 1, t + 1, 2 * t + 1)
