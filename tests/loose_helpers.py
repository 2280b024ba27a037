"""A model of a Loose, made from the words of section 12 over those of section 8."""

from tests.net_helpers import Model

LAYERS = ("claims", "promises", "echoes")


class LooseModel(Model):
    """A Loose made anew."""

    def __init__(self, program, house, inputs, liars, layer):
        self.layer = layer
        super().__init__(program, house, inputs, liars)

    def kept(self, hand, other, at):
        """What is off counts for nothing."""
        told, echoes, promises = super().kept(hand, other, at)
        return told, {} if self.layer == "echoes" else echoes, {} if self.layer == "promises" else promises

    def spread(self, hand, sender, kind, letter):
        if self.layer == "claims":
            super().spread(hand, sender, kind, letter)
        elif self.layer == "promises":
            self.spread_by_echoes(hand, sender, kind, letter)
        else:
            self.spread_by_promises(hand, sender, kind, letter)

    def spread_by_echoes(self, hand, sender, kind, letter):
        x, place, (e, _, _) = self.hands[hand], letter[:2], self.counts
        x.heard.append((sender, kind, letter))
        told, _, _ = self.kept(hand, *place)
        if told is not None and ("echo", place) not in x.did:
            x.did["echo", place] = told
            self.to_all(hand, "echo", told)
        _, echoes, _ = self.kept(hand, *place)
        self.take(hand, place, list(echoes.values()), e)

    def spread_by_promises(self, hand, sender, kind, letter):
        x, place, (_, r, d) = self.hands[hand], letter[:2], self.counts
        x.heard.append((sender, kind, letter))
        if ("promise", place) not in x.did:
            told, _, promises = self.kept(hand, *place)
            votes = list(promises.values())
            due = [told] if told is not None else [one for one in votes if votes.count(one) >= r]
            if due:
                x.did["promise", place] = due[0]
                self.to_all(hand, "promise", due[0])
        _, _, promises = self.kept(hand, *place)
        self.take(hand, place, list(promises.values()), d)

    def take(self, hand, place, votes, enough):
        x = self.hands[hand]
        for one in votes:
            if votes.count(one) >= enough and ("take", place) not in x.did:
                x.did["take", place] = one
                x.taken.append(one)

    def can_use(self, hand, letter):
        if self.layer != "claims":
            return super().can_use(hand, letter)
        places = [used[:2] for used in self.hands[hand].used]
        return all((letter[0], at) in places for at in range(1, letter[1]))
