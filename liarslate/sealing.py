"""Seals: one letter, spread by echoes that can be handed on as they came (section 13)."""

from liarslate.counts import check_sentence, check_stops, has_done, sentences_broken
from liarslate.errors import BadCount, BadHand, BadKind, BadLiar, BadLiars, BadSeal, BadTalk, BadValue, SlateError
from liarslate.posts import Post
from liarslate.spreading import check_number, GREATEST_COUNT, is_spread, votes
from liarslate.terms import check_hand, is_from, is_hand, is_hands, is_integer, is_pair

SEALED_KINDS = ("said", "echo", "shown")
RIGHT = 1
WRONG = 2
REST = ("rest",)


def check_count(count):
    """Refuses what is no count of echoes."""
    if not is_from(count, 1, GREATEST_COUNT):
        raise BadCount(count)


def check_sealed(n, count, liars, first, value):
    """Refuses what no Sealed can be made of."""
    check_number(n)
    check_count(count)
    if not is_hands(liars, n) or len(liars) == n:
        raise BadLiars(liars)
    check_hand(first, n)
    if first in liars and value is not None or first not in liars and not is_spread(value):
        raise BadValue(value)


def is_seal(n, count, value):
    """Whether value has the shape of a SEAL, of n hands."""
    if not is_pair(value) or not is_spread(value[0]):
        return False
    return is_hands(value[1], n) and len(value[1]) == count


class SealEar:
    """What one honest hand has of one letter: what it keeps of what it heard, and what it did itself."""

    def __init__(self, hand, count, first):
        self.hand = hand
        self.enough = count
        self.first = first
        self.told = None
        self.echo_from = {}
        self.echoed = None
        self.took = None

    def hear(self, kind, sender, value):
        """Keeps what counts, and does what is due: a list of the (kind, value) that it sends to all others."""
        if kind == "shown":
            return self.due_taking(value)
        if kind == "said":
            if sender == self.first and self.told is None:
                self.told = value
        else:
            self.echo_from.setdefault(sender, value)
        sends = self.due_echo()
        if votes(self.echo_from, value) >= self.enough:
            sends.extend(self.due_taking(self.seal_for(value)))
        return sends

    def due_echo(self):
        """Echoes what the first one said, if it has echoed nothing: what it sends."""
        if self.told is None or self.echoed is not None:
            return []
        self.echoed = self.told
        self.echo_from[self.hand] = self.told
        return [("echo", self.told)]

    def seal_for(self, value):
        """The SEAL of the first hands, ascending, that echoed the value to it."""
        hands = [hand for hand in sorted(self.echo_from) if self.echo_from[hand] == value]
        return (value, tuple(hands[: self.enough]))

    def due_taking(self, seal):
        """Takes what is sealed, if it has taken nothing: what it sends."""
        if self.took is not None:
            return []
        self.took = seal[0]
        return [("shown", seal)]


class Sealed:
    """One letter, on its way to n hands some of whom lie, by echoes that nobody can make for others."""

    def __init__(self, n, count, liars, first, value):
        check_sealed(n, count, liars, first, value)
        self.n = n
        self.needed = count
        self.liars = liars
        self.first = first
        self._value = value
        self._ears = [SealEar(hand, count, first) for hand in range(n)]
        self._post = Post()
        self._log = []
        if first not in liars:
            self._put_to_all(first, "said", value)
            self._hear(first, first, "said", value)

    def __eq__(self, other):
        return (
            isinstance(other, Sealed)
            and self.n == other.n
            and self.needed == other.needed
            and self.liars == other.liars
            and self.first == other.first
            and self._value == other._value
            and self._log == other._log
        )

    def __len__(self):
        return len(self._log)

    @property
    def under_way(self):
        """The ascending tuple of (number, from, to, kind, value)."""
        slips = self._post.slips
        return tuple([(number, *slips[number]) for number in sorted(slips)])

    @property
    def echoes(self):
        """What each hand echoed."""
        return tuple([ear.echoed for ear in self._ears])

    @property
    def takings(self):
        """What each hand took."""
        return tuple([ear.took for ear in self._ears])

    @property
    def log(self):
        """What was done."""
        return tuple(self._log)

    def _is_honest(self, hand):
        return is_hand(hand, self.n) and hand not in self.liars

    def _put_to_all(self, sender, kind, value):
        for to in range(self.n):
            if to != sender and to not in self.liars:
                self._post.put((sender, to, kind, value))

    def _hear(self, hand, sender, kind, value):
        for due_kind, due_value in self._ears[hand].hear(kind, sender, value):
            self._put_to_all(hand, due_kind, due_value)

    def _check_told(self, kind, value):
        """Refuses what a liar can't tell: an honest hand's echo stands in a SEAL only if it echoed this value."""
        if kind != "shown":
            if not is_spread(value):
                raise BadValue(value)
        elif not is_seal(self.n, self.needed, value):
            raise BadSeal(value)
        elif not all([hand in self.liars or self._ears[hand].echoed == value[0] for hand in value[1]]):
            raise BadSeal(value)

    def deliver(self, number):
        """The slip with this number is heard."""
        sender, to, kind, value = self._post.pull(number)
        self._log.append(("deliver", number))
        self._hear(to, sender, kind, value)

    def lie(self, liar, to, kind, value):
        """Puts such a slip of a liar: its number."""
        if not is_integer(liar) or liar not in self.liars:
            raise BadLiar(liar)
        if not self._is_honest(to):
            raise BadHand(to)
        if not isinstance(kind, str) or kind not in SEALED_KINDS:
            raise BadKind(kind)
        self._check_told(kind, value)
        self._log.append(("lie", liar, to, kind, value))
        return self._post.put((liar, to, kind, value))

    def rest(self):
        """Delivers slips, the least number first, until none is under way: how many."""
        many = 0
        while self._post.slips:
            self.deliver(self._post.least())
            many += 1
        return many

    def heard(self, hand):
        """What counts of what an honest hand heard: (said, echoes)."""
        if not self._is_honest(hand):
            raise BadHand(hand)
        ear = self._ears[hand]
        return (ear.told, tuple(sorted(ear.echo_from.items())))

    def copy(self):
        """An equal Sealed by itself."""
        twin = Sealed(self.n, self.needed, self.liars, self.first, self._value)
        for deed in self.log:
            if deed[0] == "deliver":
                twin.deliver(deed[1])
            else:
                twin.lie(deed[1], deed[2], deed[3], deed[4])
        return twin


def can_break_sealed(n, t, count, sentence):
    """Whether liars can break this sentence."""
    # Liars alone can make a SEAL of any value: there are some, as one echo is wanted at least.
    forged = count <= t
    if sentence == "one":
        return t >= 1 and 2 * count <= n + t
    if sentence == "heard":
        return count > n - t or forged
    return sentence == "own" and forged


def show(sealed, hand, value, tellers):
    """The liars and these hands' echoes seal a value, which this hand hears at once."""
    hands = sorted([*tellers, *sealed.liars])
    liar = sealed.liars[0]
    sealed.deliver(sealed.lie(liar, hand, "shown", (value, tuple(hands[: sealed.needed]))))


def lead_one_sealed(sealed):
    """Two hands hear unlike values, and unlike seals: with the liars few echoes of each value are enough."""
    lacking = max(0, sealed.needed - len(sealed.liars))
    for hand, value in ((0, RIGHT), (max(1, lacking), WRONG)):
        tellers = list(range(hand, hand + lacking))
        for teller in tellers:
            sealed.deliver(sealed.lie(sealed.first, teller, "said", value))
        show(sealed, hand, value, tellers)


def sealed_plot(n, t, count, sentence):
    """A TALK behind which this sentence is broken, for numbers that let it be. The liars are the last hands."""
    liars = tuple(range(n - t, n))
    first, value = (n - t, None) if sentence == "one" else (0, RIGHT)
    sealed = Sealed(n, count, liars, first, value)
    if sentence == "one":
        lead_one_sealed(sealed)
    elif count <= t:
        show(sealed, 1, WRONG, [])
    ends = (REST,) if sentence == "heard" else ()
    return (liars, first, value, sealed.log + ends)


def check_sealed_question(n, t, count, sentence):
    """Refuses what can't be asked of a sentence."""
    check_number(n)
    check_stops(n, t)
    check_count(count)
    check_sentence(sentence)


def sealed_breaks(n, t, count, sentence):
    """A TALK behind whose deeds this sentence is broken, None if it can't be."""
    check_sealed_question(n, t, count, sentence)
    return sealed_plot(n, t, count, sentence) if can_break_sealed(n, t, count, sentence) else None


def sealed_by(n, count, talk):
    """The Sealed behind a talk, None if it is no TALK that can be led."""
    if not isinstance(talk, tuple) or len(talk) != 4 or not isinstance(talk[3], tuple):
        return None
    try:
        sealed = Sealed(n, count, talk[0], talk[1], talk[2])
    except SlateError:
        return None
    for deed in talk[3]:
        if not has_done(sealed, deed):
            return None
    return sealed


def shows_sealed_breaks(n, t, count, sentence, value):
    """Whether any value is right as what sealed_breaks tells."""
    check_sealed_question(n, t, count, sentence)
    if value is None:
        return not can_break_sealed(n, t, count, sentence)
    sealed = sealed_by(n, count, value)
    if sealed is None or len(sealed.liars) > t or sentence not in sentences_broken(sealed, value[2]):
        return False
    return sentence in ("one", "own") or value[3][-1:] == (REST,)


def sealed_played(n, count, talk):
    """The Sealed behind a TALK."""
    check_number(n)
    check_count(count)
    sealed = sealed_by(n, count, talk)
    if sealed is None:
        raise BadTalk(talk)
    return sealed


def sealed_broken(n, count, talk):
    """The ascending tuple of the sentences that are broken behind a TALK."""
    return sentences_broken(sealed_played(n, count, talk), talk[2])
