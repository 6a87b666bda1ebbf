"""Reading a text line by line, and a line word by word (points 10 and 12)."""

from downpass.errors import TextFault

# Written out, because isalpha and isdigit also take letters and digits of other scripts.
LETTERS = "abcdefghijklmnopqrstuvwxyzABCDEFGHIJKLMNOPQRSTUVWXYZ"
DIGITS = "0123456789"
MOST_NAME = 15
MOST_DIGITS = 7


def lines_of(text):
    """The lines of a text as Line objects; there are none in the empty text."""
    # Only a newline ends a line; splitlines would end it at other characters, too.
    rows = text.split("\n")
    last = rows.pop()
    if last != "":
        raise TextFault(len(rows) + 1, len(last) + 1, "newline expected")
    return [Line(number, row) for number, row in enumerate(rows, start=1)]


def is_name(word):
    """True if a word, which is not empty, has the form of a name."""
    if len(word) > MOST_NAME or word[0] not in LETTERS:
        return False
    return all([letter in LETTERS or letter in DIGITS for letter in word])


def is_number(word):
    """True if a word, which is not empty, has the form of a number."""
    if len(word) > MOST_DIGITS or (word[0] == "0" and word != "0"):
        return False
    return all([letter in DIGITS for letter in word])


class Line:
    """A line of a text, whose words are read from left to right.

    The column is that of the next word, or of the place behind the last one.
    """

    def __init__(self, number, row):
        self.number = number
        self.words = row.split(" ")
        self.read = 0
        self.column = 1

    def refuse(self, reason):
        """Report a fault at the next word."""
        raise TextFault(self.number, self.column, reason)

    def has_more(self):
        """True if a word follows, perhaps an empty one."""
        return self.read < len(self.words)

    def due(self):
        """The next word, which is not passed yet; it must be there and not be empty."""
        if not self.has_more():
            self.refuse("missing word")
        word = self.words[self.read]
        if word == "":
            self.refuse("empty word")
        return word

    def step(self):
        """Pass the next word and the blank behind it."""
        self.column += len(self.words[self.read]) + 1
        self.read += 1

    def read_choice(self, choices):
        """Read one of these words."""
        word = self.due()
        if word not in choices:
            self.refuse("unexpected word")
        self.step()
        return word

    def read_number(self, least, most):
        """Read a number from the least to the most one."""
        word = self.due()
        if not is_number(word):
            self.refuse("number expected")
        number = int(word)
        if number < least or number > most:
            self.refuse("number out of range")
        self.step()
        return number

    def read_field(self, word, least, most):
        """Read this word, and behind it a number."""
        self.read_choice((word,))
        return self.read_number(least, most)

    def due_name(self):
        """The next word, which is not passed yet; it must be a name."""
        word = self.due()
        if not is_name(word):
            self.refuse("name expected")
        return word

    def read_new_name(self, used):
        """Read a name that is none of the used ones."""
        word = self.due_name()
        if word in used:
            self.refuse("name already used")
        self.step()
        return word

    def read_known_name(self, names, least=0):
        """Read one of the names, and return its number, which must be at least the least one."""
        word = self.due_name()
        if word not in names:
            self.refuse("unknown name")
        number = names.index(word)
        if number < least:
            self.refuse("line out of order")
        self.step()
        return number

    def finish(self):
        """The line must end here."""
        if self.has_more():
            # An empty word is a fault of its own, ahead of a word too many.
            self.due()
            self.refuse("unexpected word")
