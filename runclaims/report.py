"""Reports: CLAIMS written with what they come to, and read again."""

from runclaims.claimforms import is_claim_of
from runclaims.claims import is_paper_against, is_paper_for, paper_against, paper_for, stands
from runclaims.claimtexts import read_claim
from runclaims.errors import BadLine, BadText, Unfit
from runclaims.findings import row_states
from runclaims.formulas import formula_text
from runclaims.plain import frozen
from runclaims.plans import Plan
from runclaims.reach import soonest
from runclaims.texts import test_text
from runclaims.turntexts import read_turn, written_turn

ROUND = "  round"


def claim_text(claim):
    """The text of a CLAIM."""
    own = frozen(claim)
    if len(own) == 1:
        return own[0]
    if own[0] != "keeps":
        return f"{own[0]} {test_text(own[1])}"
    kinds = ",".join(own[3])
    heard = "".join([f"; {word} is {test_text(test)}" for word, test in own[1]])
    return f"keeps {kinds} {formula_text(own[2])}{heard}"


def claim_from(text):
    """The CLAIM that is so written."""
    claim = read_claim(text)
    if claim is None:
        raise BadText(0)
    return claim


def report(system, claims):
    """A right report of these CLAIMS."""
    given = frozen(system)
    names = [row[0] for row in given[2]]
    rows = []
    for claim in frozen(claims):
        so = stands(given, claim)
        rows.append(_head(claim, "stands" if so else "falls"))
        if _shows_turns(claim, so):
            rows.extend(_turn_rows(names, claim, _shown(given, claim)))
    return "\n".join(rows)


def told_verdicts(system, text):
    """The tuple of the pairs (claim, word) of a text that has the shape of a report."""
    given = frozen(system)
    return tuple([(claim, word) for claim, word, _ in _told_rows(given, text)])


def is_report(system, claims, thing):
    """Whether thing is a right report of these CLAIMS, with whichever ROWS and LAPS."""
    given, own = frozen(system), frozen(claims)
    if not all([is_claim_of(given, claim) for claim in own]):
        raise Unfit()
    if type(thing) is not str:
        return False
    try:
        told = _told_rows(given, thing)
    except BadLine:
        return False
    # Texts are compared, as what is told may stand in itself too deep for comparing tuples.
    if [claim_text(claim) for claim, _, _ in told] != [claim_text(claim) for claim in own]:
        return False
    return all([_is_right(given, claim, word, shown) for claim, word, shown in told])


def _head(claim, word):
    """The row of a CLAIM."""
    return f"{claim_text(claim)}: {word}"


def _shows_turns(claim, so):
    """Whether the TURNS of a ROW or a LAP are shown of a CLAIM that stands, or falls."""
    return so == (claim[0] == "can")


def _shown(system, claim):
    """The ROW or the LAP that shows that a CLAIM stands, or falls."""
    if claim[0] == "can":
        return paper_for(system, claim)
    found = paper_against(system, claim)
    return found[0] if claim[0] == "back" else found


def _turn_rows(names, claim, shown):
    """The rows of a ROW, or of a LAP if the CLAIM has one."""
    if claim[0] != "keeps":
        return [f"  {written_turn(names, turn)}" for turn in shown]
    front, circle = [[f"  {written_turn(names, turn)}" for turn in turns] for turns in shown]
    return front + [ROUND] + circle


def _told_rows(system, text):
    """Triples of a CLAIM, its word, and the ROW or LAP behind it (None where none is shown)
    of a text that has the shape of a report; raises BadLine for the first row that has not."""
    rows = [] if text == "" else text.split("\n")
    found, at = [], 0
    while at < len(rows):
        claim, word = _read_head(system, rows[at], at)
        shown, at = None, at + 1
        if _shows_turns(claim, word == "stands"):
            if claim[0] == "keeps":
                shown, at = _read_lap(system, rows, at)
            else:
                shown, at = _read_turns(system, rows, at, False)
        found.append((claim, word, shown))
    return found


def _read_head(system, row, at):
    """The CLAIM and the word of a row."""
    text, _, word = row.rpartition(": ")
    claim = read_claim(text)
    if claim is None or word not in ("stands", "falls") or row != _head(claim, word):
        raise BadLine(at)
    if not is_claim_of(system, claim):
        raise BadLine(at)
    return claim, word


def _read_turns(system, rows, at, idle):
    """The TURNS of as many rows, from this one on, as have some; and the row behind them.

    idle: whether the idle TURN may be among them."""
    found = []
    while at < len(rows):
        turn = _turn_in(system, rows[at])
        if turn is None or (turn == () and not idle):
            return tuple(found), at
        found.append(turn)
        at += 1
    return tuple(found), at


def _read_lap(system, rows, at):
    """The LAP of the rows from this one on, and the row behind them."""
    front, at = _read_turns(system, rows, at, True)
    if at == len(rows) or rows[at] != ROUND:
        raise BadLine(at)
    circle, behind = _read_turns(system, rows, at + 1, True)
    if circle == ():
        raise BadLine(at + 1)
    return (front, circle), behind


def _turn_in(system, row):
    """The TURN of parts of the SYSTEM that a row shows; None if it shows none."""
    if row[:2] != "  ":
        return None
    told = read_turn(row[2:])
    names = [name for name, _ in system[2]]
    if told is None or not all([name in names for name in told[::2]]):
        return None
    return tuple([names.index(own) if at % 2 == 0 else own for at, own in enumerate(told)])


def _is_right(system, claim, word, shown):
    """Whether this word and the ROW or LAP behind it are right for a CLAIM."""
    so = stands(system, claim)
    if so != (word == "stands"):
        return False
    if shown is None:
        return True
    if claim[0] == "can":
        return is_paper_for(system, claim, shown)
    if claim[0] == "back":
        states = row_states(Plan(system), shown)
        return states is not None and soonest(system, states[-1], claim[1]) is None
    return is_paper_against(system, claim, shown)
