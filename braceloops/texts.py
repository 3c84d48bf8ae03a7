"""Brace texts: rows and products as a shell writes them."""

from braceloops.checks import is_word
from braceloops.errors import InvalidText
from braceloops.rows import all_words, check_product, words_of_both


def expand(text):
    """Return the row of a brace text."""
    check_text(text)
    return all_words(factors_of(text))


def parse_product(text):
    """Return the product of the factors that stand behind one another in a brace text."""
    check_text(text)
    return tuple(factors_of(text)) or (("",),)


def format_product(product):
    """Return a brace text with the same words as a product."""
    check_product(product)
    return "".join([text_of(row) for row in product])


def text_of(row):
    """Return the brace text of a row."""
    return row[0] if len(row) == 1 else "{" + ",".join(row) + "}"


def check_text(text):
    """Raise InvalidText if a value is not a brace text."""
    if not is_text(text):
        raise InvalidText()


def is_text(value):
    """Return whether any value is a brace text."""
    if not isinstance(value, str):
        return False
    # For each open brace, the outermost one first: whether a comma of its own has come.
    commas = []
    for sign in value:
        if sign == "{":
            commas.append(False)
        elif sign == "," and commas != []:
            commas[-1] = True
        elif sign == "}" and commas != [] and commas[-1]:
            commas.pop()
        elif not is_word(sign):
            return False
    return commas == []


def factors_of(text):
    """Return the list of the rows of the factors of what is known to be a brace text.

    No row here is larger than the row of the factor around it. So the first one that is
    too large decides, and words beyond the limit are never written out.
    """
    # For each open brace: the factors in front of it, and the words of its alternatives so far.
    around = []
    factors = []
    for part in parts_of(text):
        if part == "{":
            around.append((factors, ()))
            factors = []
        elif part == ",":
            before, words = around.pop()
            around.append((before, words_of_both(words, all_words(factors))))
            factors = []
        elif part == "}":
            before, words = around.pop()
            before.append(words_of_both(words, all_words(factors)))
            factors = before
        else:
            factors.append((part,))
    return factors


def parts_of(text):
    """Return the list of the braces, the commas and the words between them."""
    spaced = text
    for sign in "{,}":
        spaced = spaced.replace(sign, f" {sign} ")
    return spaced.split()
