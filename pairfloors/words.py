"""Words, of which rows and texts are made: numbers, and letters for coats."""

DIGITS = "0123456789"
LONGEST_NUMBER = 6
LETTERS = "abcdef"


def number_of(word):
    """The number that the word tells, or None if it is no number word."""
    if not 1 <= len(word) <= LONGEST_NUMBER or not all([sign in DIGITS for sign in word]):
        return None
    if len(word) > 1 and word[0] == "0":
        return None
    return int(word)


def numbers_of(words, many):
    """The numbers that just so many words tell, or None if there are not so many or one is no number word."""
    numbers = tuple([number_of(word) for word in words])
    if len(numbers) != many or None in numbers:
        return None
    return numbers


def named_numbers(row, name, many):
    """The numbers of a row of single words, the name and so many number words, or None if it is no such row."""
    first, *words = row.split(" ")
    if first != name:
        return None
    return numbers_of(words, many)


def letters_of(coats):
    """The letters that stand for the coats."""
    return "".join([LETTERS[coat] for coat in coats])


def coats_of(word):
    """The coats for which the letters of the word stand, or None if it has none or others."""
    if len(word) == 0 or not all([sign in LETTERS for sign in word]):
        return None
    return tuple([LETTERS.index(sign) for sign in word])
