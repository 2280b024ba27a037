"""The errors of all sections (section 17)."""


class SlateError(ValueError):
    """The base of all errors here: its only argument is kept as value."""

    def __init__(self, value):
        self.value = value


class NoProgram(SlateError):
    """What stands for a program is none."""


class BadProgram(SlateError):
    """A program's text: the number of the line that cannot stand there."""


class BadHouse(SlateError):
    """No (n, t) of a house."""


class BadInput(SlateError):
    """No input of the program."""


class BadInputs(SlateError):
    """No inputs of these hands."""


class BadHand(SlateError):
    """No hand, or none that is meant here."""


class BadRound(SlateError):
    """No round of the program."""


class BadCells(SlateError):
    """No cells of the program."""


class BadHeard(SlateError):
    """Nothing that a hand hears in a round."""


class BadCalm(SlateError):
    """No calm run."""


class NoLetter(SlateError):
    """A hand and a round of which the calm run has no letter."""


class Quarrel(SlateError):
    """The first hand whose entries can't both be kept."""


class BadLot(SlateError):
    """No lot, or none that is meant here."""


class Begun(SlateError):
    """A hand that has sent its first letter already."""


class BadNumber(SlateError):
    """No number of hands."""


class BadCounts(SlateError):
    """No counts of echoes and promises."""


class BadCount(SlateError):
    """No count of echoes."""


class BadLiars(SlateError):
    """No liars of these hands."""


class BadValue(SlateError):
    """Nothing that can be said here."""


class NoSlip(SlateError):
    """No number of a slip that is under way."""


class BadLiar(SlateError):
    """No liar."""


class BadKind(SlateError):
    """No kind of a slip."""


class BadSlip(SlateError):
    """No slip."""


class BadStops(SlateError):
    """No number of hands that may stop or lie."""


class BadSentence(SlateError):
    """No word for a sentence."""


class BadTalk(SlateError):
    """No talk that can be led."""


class BadLog(SlateError):
    """The number of a deed that has no such form or is refused."""


class BadMany(SlateError):
    """No number of deeds that there are."""


class NotUsed(SlateError):
    """A letter that the hand did not use."""


class BadStory(SlateError):
    """No story."""


class NotWaiting(SlateError):
    """A hand that waits for nothing."""


class BadMost(SlateError):
    """No limit of a breadth."""


class Wide(SlateError):
    """The limit that a breadth is above."""


class BadStopLot(SlateError):
    """No lot of hands that may stop."""


class BadClaim(SlateError):
    """No claim on what is said."""


class NoBreak(SlateError):
    """A claim that is not broken."""


class BadLayer(SlateError):
    """No layer."""


class BadSeal(SlateError):
    """No seal that can be shown."""


class BadLetter(SlateError):
    """No letter, or none of the hand that is meant."""


class BadRecord(SlateError):
    """No record of deliveries."""


class Kept(SlateError):
    """A hand that keeps to its machine."""


class NothingToUndo(SlateError):
    """No deed stands that could be taken back."""


class NothingToRedo(SlateError):
    """No deed was taken back that could be done again."""


class NoBlock(SlateError):
    """No block is there to be kept."""


class BadJournal(SlateError):
    """A journal: the number of the line that is wrong."""


class BadTask(SlateError):
    """A line that a desk does not know."""
