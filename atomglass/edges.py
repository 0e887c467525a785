"""Edges: what holds between two signs of a text, or at its begin and its end."""

from atomglass.signs import is_word


def word_sign_at(text, place):
    """Whether there is a sign at this place, and it is a word sign."""
    return 0 <= place < len(text) and is_word(text[place])


def edge_holds(kind, text, place):
    """Whether an edge of this kind holds at a place of the text."""
    if kind == "start":
        return place == 0
    if kind == "end":
        return place == len(text)
    if kind == "rowstart":
        return place == 0 or text[place - 1] == "\n"
    if kind == "rowend":
        return place == len(text) or text[place] == "\n"
    of_word = word_sign_at(text, place - 1) != word_sign_at(text, place)
    return of_word if kind == "word" else not of_word
