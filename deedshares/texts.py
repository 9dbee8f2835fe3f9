"""The texts of diagrams."""


def show_diagram(diagram):
    """Return the text of a diagram: its names, its arrows, its hidden pairs."""
    text = "".join(diagram.names) + ":"
    if diagram.arrows:
        text = text + " " + ", ".join([f"{one} -> {other}" for one, other in diagram.arrows])
    if diagram.pairs:
        text = text + "; " + ", ".join([f"{one} ~ {other}" for one, other in diagram.pairs])
    return text
