"""Books: patterns kept by their texts."""

from atomglass.pattern import Pattern
from atomglass.reader import read_pattern


class Book:
    """At most so many patterns; the shelf has them by their texts, the one longest not asked for first."""

    def __init__(self, most):
        self.most = most
        self.made = 0
        self.shelf = {}

    def pattern(self, text):
        """The pattern that a text writes, the very one where it is kept."""
        if isinstance(text, str) and text in self.shelf:
            told = self.shelf.pop(text)
        else:
            told = Pattern(read_pattern(text))
            self.made += 1
        self.shelf[text] = told
        if len(self.shelf) > self.most:
            del self.shelf[self.kept()[0]]
        return told

    def kept(self):
        """The texts of the patterns that are kept, the one longest not asked for first."""
        return list(self.shelf)
