"""Readers: they go through a text from its beginning to its end."""

from maskwrites.errors import BadText


class Reader:
    """A text and how far it was read; BadText with the text where it does not go on as it must."""

    def __init__(self, text):
        if not isinstance(text, str):
            raise BadText(text)
        self._text = text
        self._at = 0

    def sees(self, word):
        """Tell whether a word comes next."""
        return self._text[self._at:self._at + len(word)] == word

    def skip(self, word):
        """Go behind a word if it comes next, and tell whether it did."""
        if not self.sees(word):
            return False
        self._at += len(word)
        return True

    def need(self, word):
        """Go behind a word that must come next."""
        if not self.skip(word):
            self.refuse()

    def row_of(self, signs):
        """Go behind the signs that come next as long as they are some of these, and return them."""
        start = self._at
        while self._at < len(self._text) and self._text[self._at] in signs:
            self._at += 1
        return self._text[start:self._at]

    def refuse(self):
        """Raise BadText."""
        raise BadText(self._text)
