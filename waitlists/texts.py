"""The texts of messages, runs and lists of pairs (point 23)."""

from waitlists.errors import InvalidProposal, InvalidText
from waitlists.runs import check_nodes, check_run, is_ascending, is_message, is_node, scan_run

# Python refuses to convert numbers of more than some thousand digits, so they are read and written in parts.
DIGITS = 64
PART = 10 ** 64


def show_run(nodes, run):
    """Return the text of the run."""
    check_run(nodes, run)
    return run_text(run)


def read_run(nodes, text):
    """Return the run with this text."""
    check_nodes(nodes)
    run = _read_words(text, _read_event)
    if scan_run(nodes, run) is None:
        raise InvalidText("this is not the text of a run of the nodes")
    return run


def show_pairs(nodes, pairs):
    """Return the text of a list of pairs."""
    check_nodes(nodes)
    if not _is_pairs(nodes, pairs):
        raise InvalidProposal("pairs are an ascending list of tuples of a message and another node than its sender")
    return pairs_text(pairs)


def read_pairs(nodes, text):
    """Return the list of pairs with this text."""
    check_nodes(nodes)
    pairs = _read_words(text, _read_pair)
    if not _is_pairs(nodes, pairs):
        raise InvalidText("this is not the text of an ascending list of pairs of the nodes")
    return pairs


def message_text(message):
    """Return the text of the message; nothing is checked."""
    sender, number = message
    digits = _number_text(number)
    return f"{sender}.{digits}"


def messages_text(messages):
    """Return the texts of the messages with single spaces between; nothing is checked."""
    return " ".join([message_text(message) for message in messages])


def pairs_text(pairs):
    """Return the text of the list of pairs; nothing is checked."""
    return " ".join([f"{message_text(message)}>{receiver}" for message, receiver in pairs])


def run_text(run):
    """Return the text of the run; nothing is checked."""
    return " ".join([_event_text(event) for event in run])


def read_message(word):
    """Return the message with this text, whose sender may be any string, or None."""
    sender, _, digits = word.partition(".")
    if not digits.isascii() or not digits.isdigit() or digits[0] == "0":
        return None
    return (sender, _read_number(digits))


def _event_text(event):
    """Return the text of the event."""
    kind, node, detail = event
    if kind == "open":
        return f"{node}<{message_text(detail)}"
    receivers = ",".join(detail)
    return f"{node}>{receivers}"


def _number_text(number):
    """Return the digits of a number from 1 on."""
    parts = []
    left = number
    while left >= PART:
        left, part = divmod(left, PART)
        parts.append(str(part).zfill(DIGITS))
    parts.append(str(left))
    return "".join(parts[::-1])


def _read_number(digits):
    """Return the number with these digits."""
    start = len(digits) % DIGITS
    number = int(digits[:start] or "0")
    for at in range(start, len(digits), DIGITS):
        number = number * PART + int(digits[at:at + DIGITS])
    return number


def _read_words(text, read_word):
    """Return the list of what each word of any value is read as, or None if the value is no text."""
    if not isinstance(text, str):
        return None
    return [read_word(word) for word in text.split(" ")] if text else []


def _read_event(word):
    """Return the event with this text; for any other word a tuple that is in no run of any nodes."""
    node, sign, rest = word.partition(">")
    if sign:
        return ("send", node, rest.split(","))
    node, _, rest = word.partition("<")
    return ("open", node, read_message(rest))


def _read_pair(word):
    """Return the pair with this text; for any other word a tuple that is no pair of any nodes."""
    head, _, receiver = word.partition(">")
    return (read_message(head), receiver)


def _is_pairs(nodes, value):
    """Return whether any value is an ascending list of pairs of a message and another node than its sender."""
    if not isinstance(value, list):
        return False
    for entry in value:
        if not isinstance(entry, tuple) or len(entry) != 2:
            return False
        message, receiver = entry
        if not is_message(nodes, message) or not is_node(nodes, receiver) or receiver == message[0]:
            return False
    return is_ascending(value)
