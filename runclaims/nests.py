"""DEEDS that stand in one another, read without calling itself: a text may be of any depth."""

from runclaims.errors import BadText

NESTS = ("once", "pick", "again")


class Nests:
    """The DEEDS of the innermost block so far, and what is not done around it."""

    def __init__(self):
        self.innermost = []
        # Of each DEED that is not done its word, its blocks that are, the DEEDS ahead of it.
        self.around = []

    def enter(self, word):
        """A DEED with blocks begins, and its first block with it."""
        self.around.append((word, [], self.innermost))
        self.innermost = []

    def cut_block(self):
        """A block ends, and another one of the same DEED begins."""
        self.around[-1][1].append(tuple(self.innermost))
        self.innermost = []

    def leave_nest(self):
        """A block ends, and its DEED with it."""
        self.cut_block()
        word, blocks, ahead = self.around.pop()
        ahead.append((word, blocks[0] if word == "once" else tuple(blocks)))
        self.innermost = ahead

    def may_cut(self):
        """Whether another block may come behind this one."""
        return len(self.around) > 0 and self.around[-1][0] != "once"


def read_nested(reader, read_least):
    """One or more DEEDS; read_least reads one in which no others stand."""
    nests = Nests()
    while True:
        while reader.now() in NESTS:
            word = reader.step()
            reader.want("{")
            nests.enter(word)
        nests.innermost.append(read_least(reader))
        while nests.around and reader.now() == "}":
            reader.step()
            nests.leave_nest()
        if reader.now() == "|" and nests.may_cut():
            nests.cut_block()
        elif reader.now() != ";":
            break
        reader.step()
    if nests.around:
        raise BadText(reader.at)
    return tuple(nests.innermost)
