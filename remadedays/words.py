"""The words of one line of a text, taken one after another."""
from remadedays.errors import BadText
from remadedays.kinds import BEYOND, is_name


class Words:
    """What is left of a line. Each method that takes a word raises BadText if that word cannot stand."""

    def __init__(self, text, row):
        self._words = text.split(" ")
        self._row = row
        self._at = 0

    def is_over(self):
        """Whether no word is left."""
        return self._at == len(self._words)

    def is_ahead(self, word):
        """Whether this is the next word."""
        return not self.is_over() and self._words[self._at] == word

    def is_alone(self, word):
        """Whether this word is the whole line."""
        return self._words == [word]

    def take_one_of(self, choices):
        """The next word, one of these."""
        for word in choices:
            if self.is_ahead(word):
                self._at = self._at + 1
                return word
        raise BadText(self._row, self._at)

    def take_integer(self, low, high):
        """The integer from low to high that the next word tells."""
        if self.is_over():
            raise BadText(self._row, self._at)
        value = written_integer(self._words[self._at])
        if value is None or value < low or value > high:
            raise BadText(self._row, self._at)
        self._at = self._at + 1
        return value

    def take_day(self):
        """The day that the next word tells."""
        return self.take_integer(1 - BEYOND, BEYOND - 1)

    def take_name(self):
        """The name that the next word is."""
        if self.is_over() or not is_name(self._words[self._at]):
            raise BadText(self._row, self._at)
        self._at = self._at + 1
        return self._words[self._at - 1]

    def take_name_above(self, name):
        """The name that the next word is, one above this one."""
        if not self.is_over() and self._words[self._at] <= name:
            raise BadText(self._row, self._at)
        return self.take_name()

    def take_end(self):
        """Nothing: no word may be left."""
        if not self.is_over():
            raise BadText(self._row, self._at)


def words_of(text):
    """The Words of a text of one line."""
    if not isinstance(text, str):
        raise BadText(0, 0)
    return Words(text, 0)


def written_integer(word):
    """The integer of at most 60 figures that str writes as this word; None if there is none."""
    figures = word.removeprefix("-")
    if not figures.isascii() or not figures.isdigit() or len(figures) > 60:
        return None
    if figures.startswith("0") and word != "0":
        return None
    return int(word)
