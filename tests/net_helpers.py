"""What the tests of nets share: a model of a net made from the words of section 8, and nets led by chance."""

from liarslate.calm import begins, hears, is_calm, letter_of, options
from liarslate.nets import Net
from liarslate.spreading import usual
from liarslate.texts import begun, input_values, later, Program, said, sent
from liarslate.told import told_all
from tests.helpers import HOUSES, random_text

KINDS = ("said", "echo", "promise")


def honest_of(net):
    """The honest hands of a net or a model."""
    return [hand for hand in range(net.house[0]) if hand not in net.liars]


class Hand:
    """An honest hand of the model: all that it heard, in sequence, and what it did."""

    def __init__(self, cells):
        self.heard, self.did, self.taken, self.used, self.lots = [], {}, [], [], []
        self.cells, self.sent, self.end = cells, 0, None


class Model:
    """A Net made anew; each thing heard goes through all rules, and everything is looked up in what was heard."""

    def __init__(self, program, house, inputs, liars):
        self.program, self.house, self.inputs, self.liars = program, house, inputs, liars
        self.counts = (1, 1, 1) if house[0] == 1 else usual(*house)
        self.slips, self.put_ever, self.log = [], 0, []
        self.hands = {hand: Hand(begun(program, inputs[hand])) for hand in honest_of(self)}
        for hand in self.hands:
            self.send_letter(hand, 1, inputs[hand])
            self.use(hand)

    def put(self, sender, to, slip):
        self.slips.append((self.put_ever, sender, to, slip))
        self.put_ever += 1

    def to_all(self, hand, kind, letter):
        for to in self.hands:
            if to != hand:
                self.put(hand, to, (kind, letter))
        self.spread(hand, hand, kind, letter)

    def kept(self, hand, other, at):
        """(said, echoes, promises) of what this hand heard of the letter of (other, at): what counts."""
        told, echoes, promises = None, {}, {}
        for sender, kind, letter in self.hands[hand].heard:
            if letter[:2] == (other, at):
                if kind == "said" and sender == other and told is None:
                    told = letter
                if kind == "echo":
                    echoes.setdefault(sender, letter)
                if kind == "promise":
                    promises.setdefault(sender, letter)
        return told, echoes, promises

    def spread(self, hand, sender, kind, letter):
        """The three rules of section 6 for the (hand, round) of this letter."""
        x, place, (e, r, d) = self.hands[hand], letter[:2], self.counts
        x.heard.append((sender, kind, letter))
        told, _, _ = self.kept(hand, *place)
        if told is not None and ("echo", place) not in x.did:
            x.did["echo", place] = told
            self.to_all(hand, "echo", told)
        if ("promise", place) not in x.did:
            _, echoes, promises = self.kept(hand, *place)
            for one in [*echoes.values(), *promises.values()]:
                if list(echoes.values()).count(one) >= e or list(promises.values()).count(one) >= r:
                    x.did["promise", place] = one
                    self.to_all(hand, "promise", one)
                    break
        if ("take", place) not in x.did:
            _, _, promises = self.kept(hand, *place)
            for one in promises.values():
                if list(promises.values()).count(one) >= d:
                    x.did["take", place] = one
                    x.taken.append(one)
                    break

    def letter_used(self, hand, place):
        return next((letter for letter in self.hands[hand].used if letter[:2] == place), None)

    def cells_behind(self, hand, letter):
        """The cells by which the letter's hand sends it, told by the letters that this hand used; None if it can't."""
        other, at, _, claim = letter
        if at == 1:
            good = isinstance(claim, int) and claim in input_values(self.program)
            return begun(self.program, claim) if good else None
        n, t = self.house
        if not isinstance(claim, tuple) or len(claim) != n - t or other not in claim:
            return None
        ahead = [self.letter_used(hand, (one, at - 1)) for one in claim]
        if None in ahead:
            return None
        cells = self.cells_behind(hand, self.letter_used(hand, (other, at - 1)))
        heard = tuple((one[0], one[2]) for one in ahead)
        return later(self.program, self.house, other, at - 1, cells, heard)

    def can_use(self, hand, letter):
        cells = self.cells_behind(hand, letter)
        return cells is not None and sent(self.program, self.house, letter[0], letter[1], cells) == letter[2]

    def use(self, hand):
        x = self.hands[hand]
        while True:
            fit = [letter for letter in x.taken if letter not in x.used and self.can_use(hand, letter)]
            if not fit:
                return
            x.used.append(fit[0])
            self.go_on(hand)

    def go_on(self, hand):
        x, (n, t) = self.hands[hand], self.house
        heard = [letter for letter in x.used if letter[1] == x.sent]
        others = [letter for letter in heard if letter[0] != hand][:n - t - 1]
        own = [letter for letter in heard if letter[0] == hand]
        if x.end is not None or not own or len(others) < n - t - 1:
            return
        pairs = tuple(sorted((letter[0], letter[2]) for letter in own + others))
        x.cells = later(self.program, self.house, hand, x.sent, x.cells, pairs)
        x.lots.append(tuple(pair[0] for pair in pairs))
        if x.sent == self.program.rounds:
            x.end = said(self.program, self.house, hand, x.cells)
        else:
            self.send_letter(hand, x.sent + 1, x.lots[-1])

    def send_letter(self, hand, at, claim):
        x = self.hands[hand]
        x.sent = at
        self.to_all(hand, "said", (hand, at, sent(self.program, self.house, hand, at, x.cells), claim))

    def deliver(self, number):
        slip = next(slip for slip in self.slips if slip[0] == number)
        self.slips.remove(slip)
        self.log.append(("deliver", number))
        self.spread(slip[2], slip[1], *slip[3])
        self.use(slip[2])

    def lie(self, liar, to, slip):
        self.log.append(("lie", liar, to, slip))
        self.put(liar, to, slip)
        return self.put_ever - 1

    def rest(self):
        many = 0
        while self.slips:
            self.deliver(self.slips[0][0])
            many += 1
        return many


def state(net, heard=True):
    """All that can be asked of a Net."""
    hands = []
    for hand in honest_of(net):
        told = (net.taken(hand), net.used(hand), net.lots(hand), net.cells(hand), net.at_round(hand))
        places = [(other, at) for other in range(net.house[0]) for at in range(1, net.program.rounds + 1)]
        hands.append(told + (tuple(net.heard(hand, *place) for place in places) if heard else (),))
    told = (net.program, net.house, net.inputs, net.liars, net.under_way, net.says, net.sent, net.log, len(net))
    return told + (tuple(hands),)


def model_state(model, heard=True):
    """Likewise of a Model."""
    hands, says = [], [None] * model.house[0]
    for hand in honest_of(model):
        x = model.hands[hand]
        says[hand] = x.end
        places = [(other, at) for other in range(model.house[0]) for at in range(1, model.program.rounds + 1)]
        rows = []
        for place in places if heard else ():
            told, echoes, promises = model.kept(hand, *place)
            rows.append((told, tuple(sorted(echoes.items())), tuple(sorted(promises.items()))))
        taken = tuple(sorted(x.taken, key=lambda letter: letter[:2]))
        hands.append((taken, tuple(x.used), tuple(x.lots), x.cells, x.sent, tuple(rows)))
    told = (model.program, model.house, model.inputs, model.liars, tuple(model.slips), tuple(says), model.put_ever)
    return told + (tuple(model.log), len(model.log), tuple(hands))


def random_start(chance, house=None, rounds=None, many=None, plain=False):
    """What some Net is made of; plain: by a program that asks for nobody's name."""
    house = house or chance.choice(HOUSES)
    text = random_text(chance, rounds)
    while plain and {"me", "heard"} & set(text.split()):
        text = random_text(chance, rounds)
    program = Program(text)
    many = chance.randint(0, house[1]) if many is None else many
    liars = tuple(sorted(chance.sample(range(house[0]), many)))
    values = input_values(program)
    return program, house, tuple(None if hand in liars else chance.choice(values) for hand in range(house[0])), liars


def fitting_letter(chance, net, liar):
    """A letter by which this liar would go on in the told run: others will use it if they take it."""
    calm = told_all(net)
    if not is_calm(net.program, net.house, calm):
        # Only where claims are not looked at.
        return random_letter(chance, net)
    if calm[liar] is None:
        calm = begins(net.program, net.house, calm, liar, chance.choice(input_values(net.program)))
    elif options(net.program, net.house, calm, liar):
        lot = chance.choice(options(net.program, net.house, calm, liar))
        calm = hears(net.program, net.house, calm, liar, lot)
    return letter_of(net.program, net.house, calm, liar, min(net.program.rounds, len(calm[liar][1]) + 1))


def known_letters(net):
    """All LETTERS that are told in slips under way, or taken."""
    told = [slip[3][1] for slip in net.under_way]
    return told + [letter for hand in honest_of(net) for letter in net.taken(hand)]


def random_letter(chance, net):
    """Some LETTER: of no hand's machine, or one that is known, bent somewhere."""
    n, t = net.house
    claims = [chance.randint(-2, 3), (), tuple(range(n)), tuple(sorted(chance.sample(range(n), n - t)))]
    claims.append(tuple(sorted(chance.sample(range(n), chance.randint(0, n)))))
    made = [chance.randrange(n), chance.randint(1, net.program.rounds), chance.randint(-3, 3), chance.choice(claims)]
    known = known_letters(net)
    if known and chance.random() < 0.7:
        bent = list(chance.choice(known))
        if chance.random() < 0.7:
            at = chance.randrange(4)
            bent[at] = made[at]
        return tuple(bent)
    return tuple(made)


def random_lies(chance, net):
    """Some deeds of liars that belong together: a letter told to several, or one slip of any kind."""
    liar = chance.choice(net.liars)
    honest = honest_of(net)
    if chance.random() < 0.5:
        letter = fitting_letter(chance, net, liar)
        other = random_letter(chance, net) if chance.random() < 0.3 else letter
        split = chance.randint(0, len(honest)) if other != letter else 0
        rows = [(liar, hand, ("said", other if at < split else letter)) for at, hand in enumerate(honest)]
        if chance.random() < 0.5:
            rows += [(one, hand, ("echo", letter)) for one in net.liars for hand in honest]
        if chance.random() < 0.3:
            rows += [(one, hand, ("promise", letter)) for one in net.liars for hand in honest]
        return rows
    letter = random_letter(chance, net)
    if chance.random() < 0.5:
        return [(liar, chance.choice(honest), (chance.choice(KINDS), letter))]
    kind = chance.choice(KINDS)
    return [(one, hand, (kind, letter)) for one in net.liars for hand in honest]


def next_number(chance, net, style):
    """Which slip comes next: the oldest, the newest, any one, or those to some hand last."""
    slips = net.under_way
    if style == "oldest":
        return slips[0][0]
    if style == "newest":
        return slips[-1][0]
    if style == "slow":
        slow = honest_of(net)[0]
        slips = [slip for slip in slips if slow not in slip[1:3]] or slips
    return chance.choice(slips)[0]


STYLES = ("oldest", "newest", "any", "slow")


def lead(chance, net, deeds, style=None, others=(), lies=0.06):
    """Does about so many deeds, the same ones in others, yielding behind each one."""
    style = style or chance.choice(STYLES)
    done = 0
    while done < deeds and (net.under_way or net.liars and lies):
        if net.under_way and (not net.liars or chance.random() > lies):
            number = next_number(chance, net, style)
            for one in (net,) + tuple(others):
                one.deliver(number)
            done += 1
            yield
        else:
            for lie in random_lies(chance, net):
                assert len({one.lie(*lie) for one in (net,) + tuple(others)}) == 1
                done += 1
                yield


def carry(net, wanted):
    """Delivers slips (number, from, to, SLIP) that are wanted, the least number first, as long as there are some."""
    while True:
        slips = [slip for slip in net.under_way if wanted(slip)]
        if not slips:
            return
        net.deliver(slips[0][0])


def led_net(chance, deeds=None, **start):
    """A Net that did some deeds by chance."""
    net = Net(*random_start(chance, **start))
    n, _ = net.house
    if deeds is None:
        deeds = chance.randint(0, n * n * net.program.rounds * 2)
    for _ in lead(chance, net, deeds):
        pass
    return net
