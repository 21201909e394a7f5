"""The errors of this package: one class for each kind of failure."""


class TurnError(ValueError):
    """Any error of this package."""


class BadWeb(TurnError):
    """What should be a web is none."""


class BadPlace(TurnError):
    """What should be a place of the web is none."""


class BadHall(TurnError):
    """What should be a hall is none."""


class BadState(TurnError):
    """What should be a state is none, or none that is wanted."""


class BadRows(TurnError):
    """A text is no hall: row and word count from 0 and tell the first word that does not fit."""

    def __init__(self, row, word):
        TurnError.__init__(self, f"row {row}, word {word} does not fit")
        self.row = row
        self.word = word


class BadOrder(TurnError):
    """What should be an order of the web is none."""


class BadCount(TurnError):
    """What should be an integer within told bounds is none."""


class BadArrows(TurnError):
    """What should be arrows of the web are none."""


class BadRing(TurnError):
    """What should be a ring of the web is none."""


class BadMoves(TurnError):
    """What should be a list of moves is none, or cannot be made, or does not lead where it must."""


class BadPieces(TurnError):
    """A web has more than one piece."""


class BadDays(TurnError):
    """What should be a ring of days is none."""


class BadRules(TurnError):
    """The rules of a hall are not of the wanted sort."""


class BadRule(TurnError):
    """What should be a rule of a place is none."""


class BadJoin(TurnError):
    """Two halls cannot stand beside one another."""


class BadTurns(TurnError):
    """What should be the turns of two halls in one order are none."""


class BadLengths(TurnError):
    """What should be a list of ring lengths is none."""


class BadPart(TurnError):
    """What should be the places of a part of a hall are none."""


class BadSamples(TurnError):
    """What should be samples of a hall are none."""


class BadOrders(TurnError):
    """What should be a list or tuple of orders is none."""


class BadIndex(TurnError):
    """What should be an index of two places that may be exchanged is none."""


class NothingToUndo(TurnError):
    """No deed is in force that could be taken back."""


class Full(TurnError):
    """As many deeds are in force as can be."""


class BadCommand(TurnError):
    """What should be a row for the desk is none."""


class TooMany(TurnError):
    """What is asked for would be more than is told."""
