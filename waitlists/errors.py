"""The errors that the package raises."""


class WaitError(ValueError):
    """The base class of all errors of the package."""


class InvalidNodes(WaitError):
    """The value is not a list of nodes."""


class InvalidRun(WaitError):
    """The value is not a run of the nodes."""


class UnknownNode(WaitError):
    """The value is not one of the nodes."""


class InvalidReceivers(WaitError):
    """The value is not a list of receivers of the node."""


class UnknownMessage(WaitError):
    """The value is not one of the messages."""


class InvalidIndex(WaitError):
    """The value is not an index of what is numbered."""


class InvalidPair(WaitError):
    """The value is not a pair of a message and one of its receivers."""


class InvalidLabel(WaitError):
    """The value is not a label of the nodes."""


class InvalidProposal(WaitError):
    """The value is not a proposal."""


class Needed(WaitError):
    """The pair is in the waitlist of the node."""


class NotNeeded(WaitError):
    """The pair is not in the waitlist of the node."""


class NotInTransit(WaitError):
    """The message is not under way to the receiver."""


class InvalidText(WaitError):
    """The value is not a text of the wanted kind."""


class InvalidCommand(WaitError):
    """The value is not a command."""


class NoNet(WaitError):
    """The desk has no net yet."""


class NotCausal(WaitError):
    """The run has an open that is too early, the first one at this index."""

    def __init__(self, index):
        self.index = index


class TooMany(WaitError):
    """There are too many closed messages, this many."""

    def __init__(self, many):
        self.many = many
