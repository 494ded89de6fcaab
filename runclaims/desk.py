"""A desk: requests to a Board, written, and replies to them."""

from runclaims.board import Board
from runclaims.claimtexts import read_claim
from runclaims.edittexts import read_edit, written_edit
from runclaims.errors import (
    BadLine, BadText, Known, NoCell, NoLabel, NoPart, NoQueue, NoSystem, NotReady, NothingDone,
    Unfit,
)
from runclaims.language import system_from
from runclaims.plain import frozen
from runclaims.report import claim_text, report
from runclaims.requestforms import read_request, request_rows
from runclaims.states import ended_parts, held_in, holder_of, lying, ready
from runclaims.systems import part_names
from runclaims.texts import system_text
from runclaims.turntexts import read_turn, written_turn


def turn_text(system, turn):
    """The text of a TURN."""
    return written_turn(part_names(system), frozen(turn))


def turn_from(system, text):
    """The TURN that is so written."""
    told = read_turn(text)
    if told is None:
        raise BadText(0)
    names = part_names(system)
    for name in told[::2]:
        if name not in names:
            raise NoPart(name)
    return tuple([names.index(own) if at % 2 == 0 else own for at, own in enumerate(told)])


def edit_text(edit):
    """The text of an EDIT."""
    return written_edit(frozen(edit))


def edit_from(text):
    """The EDIT that is so written."""
    edit = read_edit(text)
    if edit is None:
        raise BadText(0)
    return edit


def is_request(thing):
    """Whether thing is a string that is a request, by its shape alone."""
    if type(thing) is not str:
        return False
    rows = request_rows(thing)
    return len(rows) == 1 and read_request(rows[0][1]) is not None


def replies(text):
    """The list of the replies to the requests of a text."""
    if text == "":
        return []
    rows = request_rows(text)
    for number, request in rows:
        if read_request(request) is None:
            raise BadLine(number)
    board, found = Board(), []
    for _, request in rows:
        found.append(_reply(board, read_request(request)))
    return found


def _reply(board, request):
    """The reply to a request, be it refused or not."""
    try:
        return _answer(board, request)
    except Known:
        return "refused Known"
    except NoCell:
        return "refused NoCell"
    except NoLabel:
        return "refused NoLabel"
    except NoPart:
        return "refused NoPart"
    except NoQueue:
        return "refused NoQueue"
    except NoSystem:
        return "refused NoSystem"
    except NotReady:
        return "refused NotReady"
    except NothingDone:
        return "refused NothingDone"
    except Unfit:
        return "refused Unfit"


def _answer(board, request):
    """The reply to a request; raises what refuses it."""
    word = request[0]
    if word == "names":
        return _joined(" ", board.names)
    if word == "deeds":
        return str(board.deeds)
    if word == "undo":
        board.undo()
        return "done"
    if word in ("put", "drop", "rename", "edit", "turn", "keep", "free"):
        _do(board, request)
        return "done"
    if word in ("claims", "standing", "lost", "sure", "spoilt", "mended"):
        return _joined("\n", [claim_text(claim) for claim in _claims_told(board, request)])
    return _answer_of_system(board, request)


def _do(board, request):
    """Do the deed with a SYSTEM for which a request asks."""
    word, name, own = request[0], request[1], request[-1]
    if word == "put":
        board.put(name, system_from(own))
    elif word == "drop":
        board.drop(name)
    elif word == "rename":
        board.rename(name, own)
    elif word == "edit":
        board.edit(name, read_edit(own))
    elif word == "turn":
        board.turn(name, turn_from(board[name], own))
    elif word == "keep":
        board.keep(name, read_claim(own))
    else:
        board.free(name, read_claim(own))


def _claims_told(board, request):
    """The CLAIMS for which a request asks."""
    word, name, own = request[0], request[1], request[-1]
    if word == "claims":
        return board.claims(name)
    if word == "standing":
        return board.standing(name)
    if word == "lost":
        return board.lost(name)
    if word == "sure":
        return board.sure(name)
    if word == "spoilt":
        return board.spoilt_by(name, read_edit(own))
    return board.mended_by(name, read_edit(own))


def _answer_of_system(board, request):
    """The reply to a request for something of a SYSTEM and its TURNS so far."""
    word, name, own = request[0], request[1], request[-1]
    system, state = board[name], board.state(name)
    if word == "system":
        return system_text(system)
    if word == "run":
        return _joined(", ", [turn_text(system, turn) for turn in board.turns(name)])
    if word == "ready":
        return _joined(", ", [turn_text(system, turn) for turn in ready(system, state)])
    if word == "cell":
        return str(held_in(system, state, own))
    if word == "lying":
        return _joined(" ", [str(number) for number in lying(system, state, own)])
    if word == "holder":
        return holder_of(system, state) or "-"
    if word == "ended":
        return _joined(" ", ended_parts(system, state))
    return report(system, board.claims(name))


def _joined(between, parts):
    """The parts with this between two; - if there are none."""
    return between.join(parts) if parts else "-"
