"""Books whose least documents have 500 parts, which are told, or 501, which are too many."""

# Of 495 parts, and what 500 or 501 are made of.
BLOCKS = ["none n", "list a n 4 4", "list b a 4 4", "list c b 4 4", "list d c 4 4",
          "record r", "  x d", "  y c", "  z b", "  v b", "  w b", "  u a"]


def great(name, parts):
    """The lines of a record whose least documents have 500 or 501 parts."""
    lines = [f"record {name}", "  x r", "  y n", "  z n", "  v n", "  w n"]
    return lines + ["  u n"] if parts == 501 else lines


def text_with(*lines):
    return "\n".join(BLOCKS + list(lines))
