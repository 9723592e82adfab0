"""Texts of EXPRESSIONS: read and shown."""

from unwaited.errors import NoText, Wrong
from unwaited.forms import is_name

MOST_WORDS = 120
MOST_DIGITS = 4

# What comes next while a text is read: a part; the number behind an `@`; a sign, or the end;
# the same behind a NAME, where an `@` may come, too.
PART = 0
BACK = 1
SIGN = 2
NAMED = 3

# Which signs bind more tightly; a whole `if` ends only where nothing else can go on.
RANKS = {"else": 0, "<": 1, "+": 2, "-": 2, "*": 3}
OPENERS = {"then": "if", "else": "then", ")": "("}


def words_of(text):
    """Returns the list of the words of a text without line feeds."""
    return [word for word in text.split(" ") if word != ""]


def is_number_word(word):
    """Tells whether a word is a NUMBER word."""
    return word.isascii() and word.isdigit() and (word == "0" or word[0] != "0")


def is_value_word(word):
    """Tells whether a word is a NUMBER word up to 9999: it has no needless `0`, so its length tells."""
    return is_number_word(word) and len(word) <= MOST_DIGITS


def atom_of(word):
    """Returns the EXPRESSION for which a word stands by itself, None if there is none."""
    if is_value_word(word):
        return ("number", int(word))
    if word == "round":
        return ("round",)
    if is_name(word):
        return ("read", word, 0)
    return None


class Reader:
    """Reads a text word by word. Lists instead of calls within calls, as brackets may be many deep."""

    def __init__(self):
        """parts are those that wait for a sign to join them; signs are those that have not joined parts yet."""
        self.parts = []
        self.signs = []
        self.state = PART

    def take(self, word):
        """Takes the next word; tells whether a text can go on so."""
        if self.state == PART:
            return self.take_part(word)
        if self.state == BACK:
            return self.take_back(word)
        return self.take_sign(word)

    def take_part(self, word):
        """Takes a word where a part must begin."""
        # An `if` stands only where a CHOICE begins, so not behind an operator; behind `else` one does begin.
        in_sum = len(self.signs) > 0 and RANKS.get(self.signs[-1], 0) > RANKS["else"]
        if word == "(" or (word == "if" and not in_sum):
            self.signs.append(word)
            return True
        atom = atom_of(word)
        if atom is None:
            return False
        self.parts.append(atom)
        self.state = NAMED if atom[0] == "read" else SIGN
        return True

    def take_back(self, word):
        """Takes the word behind an `@`."""
        if not is_number_word(word) or word == "0":
            return False
        _, name, _ = self.parts.pop()
        self.parts.append(("read", name, int(word)))
        self.state = SIGN
        return True

    def take_sign(self, word):
        """Takes a word behind a whole part."""
        if word == "@":
            may_come = self.state == NAMED
            self.state = BACK
            return may_come
        if word in OPENERS:
            return self.close(word)
        return word in RANKS and self.take_operator(word)

    def take_operator(self, word):
        """Takes an operator; a second `<` behind one that is not in brackets is refused."""
        self.fold(max(RANKS[word], RANKS["+"]))
        if word == "<" and len(self.signs) > 0 and self.signs[-1] == "<":
            return False
        self.signs.append(word)
        self.state = PART
        return True

    def close(self, word):
        """Takes a word that ends a CHOICE: the one that has begun it must wait for this word."""
        self.fold(RANKS["else"])
        if len(self.signs) == 0 or self.signs[-1] != OPENERS[word]:
            return False
        self.signs.pop()
        if word == ")":
            self.state = SIGN
        else:
            self.signs.append(word)
            self.state = PART
        return True

    def fold(self, rank):
        """Joins the last parts by the last signs, as long as these have at least this rank."""
        while len(self.signs) > 0 and RANKS.get(self.signs[-1], -1) >= rank:
            sign = self.signs.pop()
            other = self.parts.pop()
            one = self.parts.pop()
            if sign == "else":
                self.parts.append(("if", self.parts.pop(), one, other))
            else:
                self.parts.append(("two", sign, one, other))

    def ended(self):
        """Returns the EXPRESSION that has been read, None if the text ends too early."""
        if self.state == PART or self.state == BACK:
            return None
        self.fold(RANKS["else"])
        if len(self.signs) > 0:
            return None
        return self.parts[0]


def expression_of(words):
    """Returns the EXPRESSION of which these words are the text; raises NoText(index) if there is none."""
    reader = Reader()
    for at, word in enumerate(words[:MOST_WORDS]):
        if not reader.take(word):
            raise NoText(at)
    if len(words) > MOST_WORDS:
        raise NoText(MOST_WORDS)
    expression = reader.ended()
    if expression is None:
        raise NoText(len(words))
    return expression


def read_expression(text):
    """Returns the EXPRESSION of which this is the text; raises NoText(index of a word) if there is none."""
    if not isinstance(text, str):
        raise Wrong(0)
    return expression_of(words_of(text))


def is_bracketed(part, least):
    """Tells whether a part stands in brackets, least being the least rank of a sign that may stand there bare."""
    if part[0] == "two":
        return RANKS[part[1]] < least
    return part[0] == "if"


def shown_part(part, least):
    """Returns the list of what a part is shown by: itself, perhaps with brackets around it."""
    if is_bracketed(part, least):
        return ["(", part, ")"]
    return [part]


def pieces_of(expression):
    """Returns the list of words and parts, in order, by which an EXPRESSION is shown."""
    head = expression[0]
    if head == "number":
        return [str(expression[1])]
    if head == "round":
        return ["round"]
    if head == "read":
        _, name, d = expression
        return [name] if d == 0 else [name, "@", str(d)]
    if head == "if":
        _, test, one, other = expression
        return ["if"] + shown_part(test, 0) + ["then"] + shown_part(one, 0) + ["else"] + shown_part(other, 0)
    _, sign, one, other = expression
    # Rows are taken from the left, so the right side must bind more tightly; beside `<` both sides are SUMS.
    least = max(RANKS[sign], RANKS["+"])
    right = least if sign == "<" else least + 1
    return shown_part(one, least) + [sign] + shown_part(other, right)


def show_expression(expression):
    """Returns the text of an EXPRESSION, with as few brackets as can be, but around each `if` in it."""
    words = []
    left = [expression]
    while left:
        piece = left.pop()
        if isinstance(piece, str):
            words.append(piece)
        else:
            left.extend(pieces_of(piece)[::-1])
    return " ".join(words)
