"""What is joined by words and brackets, read without calling itself: a text may be of any depth."""

from runclaims.errors import BadText

# How closely a bracket, and a word that turns one part, hold on to what comes behind them;
# words that join two parts lie between.
BRACKET = 0
TURNED = 9


class Pile:
    """The parts read so far, and the words and brackets that wait for the next one."""

    def __init__(self):
        self.parts = []
        self.waiting = []
        self.brackets = 0

    def begin_bracket(self):
        """What comes next stands in a bracket."""
        self.waiting.append((BRACKET, ""))
        self.brackets += 1

    def end_bracket(self):
        """The last bracket that began ends."""
        self.build(BRACKET + 1)
        self.waiting.pop()
        self.brackets -= 1

    def turn_next(self, word):
        """This word turns the next part."""
        self.waiting.append((TURNED, word))

    def join_next(self, close, word):
        """This word joins the last part with the next one, this closely."""
        self.build(close)
        self.waiting.append((close, word))

    def build(self, close):
        """Put the last parts together, as long as the word that waits for them is this close."""
        while self.waiting and self.waiting[-1][0] >= close:
            found, word = self.waiting.pop()
            last = self.parts.pop()
            if found == TURNED:
                self.parts.append((word, last))
            else:
                self.parts.append((word, self.parts.pop(), last))


def read_joined(reader, signs, read_least):
    """What is written by least parts, words that turn and join them, and brackets.

    signs: how a bracket begins and ends, the words that turn a part, and triples of a word
    that joins two, how closely it does (from 1), and what the joined part is called.
    """
    begin, end, turning, joining = signs
    joins = {word: (close, name) for word, close, name in joining}
    pile = Pile()
    while True:
        _read_ahead(reader, pile, begin, turning)
        pile.parts.append(read_least(reader))
        while pile.brackets > 0 and reader.now() == end:
            reader.step()
            pile.end_bracket()
        if reader.now() not in joins:
            break
        close, name = joins[reader.step()]
        pile.join_next(close, name)
    if pile.brackets > 0:
        raise BadText(reader.at)
    pile.build(BRACKET + 1)
    return pile.parts[0]


def _read_ahead(reader, pile, begin, turning):
    """The brackets that begin, and the words that turn, ahead of a least part."""
    while reader.now() == begin or reader.now() in turning:
        word = reader.step()
        if word == begin:
            pile.begin_bracket()
        else:
            pile.turn_next(word)
