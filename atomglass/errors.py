"""The refusals: each stands right under GlassError and under no other one."""


class GlassError(ValueError):
    """What all refusals have in common."""


class NoPlace(GlassError):
    """What was handed in is no place of the text, or no number of a row."""

    def __init__(self, at):
        self.at = at


class Bad(GlassError):
    """The tree has a fault, at a path."""

    def __init__(self, word, path):
        self.word = word
        self.path = path


class NoPattern(GlassError):
    """The text is no written pattern: at this place it goes wrong."""

    def __init__(self, at):
        self.at = at


class Unfit(GlassError):
    """The pattern, or what is asked for, does not fit the asking."""

    def __init__(self, word):
        self.word = word


class TooMuch(GlassError):
    """More steps were needed than were granted."""

    def __init__(self, most):
        self.most = most


class TooMany(GlassError):
    """More things were needed, or told, than there may be."""

    def __init__(self, most):
        self.most = most


class NoTemplate(GlassError):
    """The text is no template: at this place it goes wrong."""

    def __init__(self, at):
        self.at = at


class NoName(GlassError):
    """The name, or the number, stands for nothing."""

    def __init__(self, name):
        self.name = name


class NoRow(GlassError):
    """What was said is no row of words that the desk knows."""
