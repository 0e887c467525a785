"""Ways: where a pattern takes a piece of a text, what its groups take, and by which choices."""


class Way:
    """A way of a pattern in a text."""

    def __init__(self, begin, end, spans, choices):
        self.begin = begin
        self.end = end
        self.spans = spans
        self.choices = choices

    def __eq__(self, other):
        return (
            isinstance(other, Way) and self.begin == other.begin
            and self.end == other.end and self.spans == other.spans
        )

    def __str__(self):
        return f"{self.begin}-{self.end}"
