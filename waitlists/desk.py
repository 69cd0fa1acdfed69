"""A desk: a net that is used by commands (point 24)."""

from waitlists.errors import InvalidCommand, Needed, NoNet
from waitlists.nets import Net
from waitlists.reasons import reason_for
from waitlists.runs import is_name
from waitlists.texts import message_text, messages_text, pairs_text, read_message, run_text

# The kinds of the words behind the first one. These are the least words of `nodes` and `send`, which take more names.
FORMS = {
    "nodes": ("name", "name"),
    "send": ("name", "name"),
    "arrive": ("message", "name"),
    "settle": (),
    "waitlist": ("name",),
    "counts": ("name",),
    "held": ("name",),
    "transit": (),
    "blocked": ("message", "name"),
    "reason": ("message", "name", "name"),
    "run": (),
}
LARGEST_NUMBER = 999999999


class Desk:
    """A desk with one net, at first none."""

    def __init__(self):
        self._net = None
        self._nodes = []

    def execute(self, row):
        """Run one command; return its result, a text."""
        command, values = _read_command(row)
        if command == "nodes":
            self._net = Net(values)
            self._nodes = values
            return "ok"
        if self._net is None:
            raise NoNet("there is no net yet")
        return self._answer(command, values)

    def _answer(self, command, values):
        """Return the result of a command that needs the net."""
        net = self._net
        match command:
            case "send":
                return message_text(net.send_message(values[0], values[1:]))
            case "arrive":
                return messages_text(net.arrive_at(values[0], values[1])) or "held"
            case "settle":
                return str(net.settle_all())
            case "waitlist":
                return pairs_text(net.label_at(values[0])[1]) or "empty"
            case "counts":
                return _counts_text(net.label_at(values[0])[0])
            case "held":
                return messages_text(net.held_by(values[0])) or "none"
            case "transit":
                return pairs_text(net.in_transit()) or "none"
            case "blocked":
                return messages_text(net.blocked_by(values[0], values[1])) or "free"
            case "reason":
                return self._reason(values[0], values[1], values[2])
            case _:
                return run_text(net.recorded_run()) or "empty"

    def _reason(self, message, node, receiver):
        """Return the kind of the reason why the pair is not in the waitlist of the node, or that it is needed."""
        run = self._net.recorded_run()
        try:
            return reason_for(self._nodes, run, node, (message, receiver))[0]
        except Needed:
            return "needed"


def _read_command(row):
    """Return the first word of a command, and a list of the names and messages behind it.

    Raise InvalidCommand if the value is not a command.
    """
    if isinstance(row, str):
        words = row.split(" ")
        values = _read_values(words[0], words[1:])
        if values is not None:
            return (words[0], values)
    raise InvalidCommand("this is not a command")


def _read_values(command, words):
    """Return the list of the names and messages that the words of a command stand for, or None."""
    if command not in FORMS:
        return None
    form = FORMS[command]
    if command in ("nodes", "send"):
        form = form + ("name",) * (len(words) - len(form))
    if len(words) != len(form):
        return None
    values = []
    for kind, word in zip(form, words):
        value = _read_short_message(word) if kind == "message" else _read_name(word)
        if value is None:
            return None
        values.append(value)
    return values


def _read_name(word):
    """Return the word if it is a name, or None."""
    return word if is_name(word) else None


def _read_short_message(word):
    """Return the message with this text if its sender is a name and its number is not too long, or None."""
    message = read_message(word)
    if message is None or not is_name(message[0]) or message[1] > LARGEST_NUMBER:
        return None
    return message


def _counts_text(counts):
    """Return the text of the counts of a node."""
    return " ".join([f"{node}={number}" for node, number in counts.items()])
