"""Texts read sign by sign, just as they are written; what is not written so is refused with NoText."""

from leastform.errors import NoText
from leastform.values import is_text


class Reader:
    def __init__(self, text):
        self.text = text
        self.place = 0

    def sees(self, words):
        return self.text.startswith(words, self.place)

    def passes(self, words):
        if not self.sees(words):
            return False
        self.place = self.place + len(words)
        return True

    def needs(self, words):
        if not self.passes(words):
            raise NoText(f"the text lacks {words!r}")

    def needs_end(self):
        if self.place < len(self.text):
            raise NoText("the text goes on")

    def read_number(self):
        start = self.place
        self.passes("-")
        while self.place < len(self.text) and self.text[self.place] in "0123456789":
            self.place = self.place + 1
        written = self.text[start:self.place]
        try:
            number = int(written)
        except ValueError:
            raise NoText("the text lacks a number") from None
        # A nought ahead of other figures is not written, nor a sign ahead of nought.
        if str(number) != written:
            raise NoText("no number is written so")
        return number

    def read_quoted(self):
        self.needs("\"")
        pieces = []
        while True:
            end = self.text.find("\"", self.place)
            if end < 0:
                raise NoText("the text lacks a quote at its end")
            pieces.append(self.text[self.place:end])
            self.place = end + 1
            # A quote twice is one that stands in the text itself.
            if not self.passes("\""):
                return "".join(pieces)
            pieces.append("\"")


# read_one is handed a reader, and gives back what it read there.
def read_whole(text, read_one):
    if not is_text(text):
        raise NoText("this is no text")
    reader = Reader(text)
    thing = read_one(reader)
    reader.needs_end()
    return thing
