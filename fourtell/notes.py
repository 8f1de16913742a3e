"""Hands and rows written as texts."""

from fourtell.errors import NoNote

MOST_NUMBERS = 6
GREATEST_NUMBER = 999
MOST_FIGURES = 3
FIGURES = "0123456789"


def shown(numbers):
    check_length(numbers)
    for number in numbers:
        if number < 0 or number > GREATEST_NUMBER:
            raise NoNote(f"a note has numbers from 0 to {GREATEST_NUMBER}, not {number}")
    return " ".join([str(number) for number in numbers])


def read(text):
    words = text.split(" ")
    check_length(words)
    for word in words:
        check_word(word)
    return [int(word) for word in words]


def check_length(things):
    count = len(things)
    if count < 1 or count > MOST_NUMBERS:
        raise NoNote(f"a note has from 1 to {MOST_NUMBERS} numbers, not {count}")


def check_word(word):
    # int alone would take signs, underlines and white space too.
    strange = [sign for sign in word if sign not in FIGURES]
    if strange or len(word) < 1 or len(word) > MOST_FIGURES:
        raise NoNote(f"a number of a note has from 1 to {MOST_FIGURES} figures, not {word!r}")
    if word[0] == "0" and word != "0":
        raise NoNote(f"a number of a note has no needless nought ahead, unlike {word!r}")
