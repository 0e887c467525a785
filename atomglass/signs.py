"""Signs and the order they stand in; texts, names and whole numbers."""

SIGNS = "\n !\"#$&'()*+,-./0123456789:;<=>?@ABCDEFGHIJKLMNOPQRSTUVWXYZ[\\]^_`abcdefghijklmnopqrstuvwxyz{|}~"
SMALL_LETTERS = "abcdefghijklmnopqrstuvwxyz"
MOST_SIGNS = 400
MOST_LETTERS = 8


def is_whole(whatever):
    """Whether it is a whole number; to Python a truth is an int too, here it is none."""
    return isinstance(whatever, int) and not isinstance(whatever, bool)


def is_sign(whatever):
    """Whether it is a sign."""
    return isinstance(whatever, str) and len(whatever) == 1 and whatever in SIGNS


def is_text(whatever):
    """Whether it is a text of at most 400 signs."""
    if not isinstance(whatever, str) or len(whatever) > MOST_SIGNS:
        return False
    return all([sign in SIGNS for sign in whatever])


def is_name(whatever):
    """Whether it is a name: one to eight small letters."""
    if not isinstance(whatever, str) or not 1 <= len(whatever) <= MOST_LETTERS:
        return False
    return all([sign in SMALL_LETTERS for sign in whatever])


def rank(sign):
    """The number of a sign in the order of all signs, from 0 on."""
    return SIGNS.index(sign)


def sign_of(number):
    """The sign of a rank."""
    return SIGNS[number]


def twin(sign):
    """The same letter great or small; of each other sign itself."""
    return sign.swapcase()


def is_word(sign):
    """Whether it is a letter, a figure or the low stroke."""
    return sign.isalnum() or sign == "_"
