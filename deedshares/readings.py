"""The diagrams that texts tell."""

from deedshares.diagrams import Diagram
from deedshares.errors import DeedError, Unreadable
from deedshares.texts import show_diagram


def read_diagram(text):
    """Return the diagram with a text."""
    names, _, joins = text.partition(":")
    arrows, _, pairs = joins.partition(";")
    try:
        diagram = Diagram(list(names), twos_in(arrows, " -> "), twos_in(pairs, " ~ "))
    except DeedError:
        raise Unreadable(text) from None
    # What was read loosely shows here: each diagram has one text only.
    if show_diagram(diagram) != text:
        raise Unreadable(text)
    return diagram


def twos_in(text, sign):
    """Return the list of the tuples of what stands ahead of a sign and behind it, in each part of a text."""
    twos = []
    if text:
        for part in text[1:].split(", "):
            one, _, other = part.partition(sign)
            twos.append((one, other))
    return twos
