"""A Board: SYSTEMS under names, runs of them so far, CLAIMS that are kept about them."""

from runclaims.claimforms import is_claim_of
from runclaims.edits import edited
from runclaims.errors import Known, NoSystem, NotReady, NothingDone, Unfit
from runclaims.laps import states_along
from runclaims.outlooks import Outlook, stands_in
from runclaims.plain import as_set, frozen
from runclaims.plans import Plan


class Board:
    """Some SYSTEMS, each with its TURNS so far and a set of kept CLAIMS.

    A row is a triple (system, turns, claims). Rows are never changed, but others put in
    their place, so what was there ahead of each deed can be kept as it was.
    """

    def __init__(self):
        self._rows = {}
        self._past = []

    @property
    def names(self):
        """The set of the names."""
        return tuple(sorted(list(self._rows)))

    @property
    def deeds(self):
        """How many deeds can be taken back."""
        return len(self._past)

    def __len__(self):
        return len(self._rows)

    def __contains__(self, name):
        return name in self._rows

    def __getitem__(self, name):
        if name not in self._rows:
            raise NoSystem(name)
        return self._rows[name][0]

    def __iter__(self):
        raise TypeError("a Board is not iterated over")

    def __eq__(self, other):
        return isinstance(other, Board) and self._rows == other._rows

    def put(self, name, system):
        """Have this SYSTEM under a new name."""
        if name in self._rows:
            raise Known(name)
        self._keep_row(name, (frozen(system), (), ()))

    def drop(self, name):
        """Have the SYSTEM of this name no more."""
        self._row(name)
        self._remember()
        del self._rows[name]

    def rename(self, name, new):
        """Have the SYSTEM of this name under another one."""
        row = self._row(name)
        if new != name and new in self._rows:
            raise Known(new)
        self._remember()
        del self._rows[name]
        self._rows[new] = row

    def edit(self, name, edit):
        """Have the SYSTEM behind this EDIT in the place of this one."""
        system, _, claims = self._row(name)
        self._keep_row(name, (edited(system, edit), (), claims))

    def turn(self, name, turn):
        """Take one more TURN."""
        system, turns, claims = self._row(name)
        plan, more = Plan(system), (*turns, frozen(turn))
        if states_along(plan, plan.first, more) is None:
            raise NotReady()
        self._keep_row(name, (system, more, claims))

    def keep(self, name, claim):
        """Keep this CLAIM."""
        system, turns, claims = self._row(name)
        own = frozen(claim)
        if not is_claim_of(system, own):
            raise Unfit()
        self._keep_row(name, (system, turns, as_set((*claims, own))))

    def free(self, name, claim):
        """Keep this CLAIM no more."""
        system, turns, claims = self._row(name)
        own = frozen(claim)
        if own not in claims:
            raise Unfit()
        self._keep_row(name, (system, turns, tuple([kept for kept in claims if kept != own])))

    def undo(self):
        """Take back the last deed that is left."""
        if len(self._past) == 0:
            raise NothingDone()
        self._rows = self._past.pop()

    def twin(self):
        """An equal Board with the same deeds to be taken back."""
        other = Board()
        other._rows = dict(self._rows)
        other._past = [dict(rows) for rows in self._past]
        return other

    def turns(self, name):
        """The TURNS so far."""
        return self._row(name)[1]

    def state(self, name):
        """The STATE behind the TURNS so far."""
        system, turns, _ = self._row(name)
        plan = Plan(system)
        return states_along(plan, plan.first, turns)[-1]

    def claims(self, name):
        """The set of the kept CLAIMS."""
        return self._row(name)[2]

    def standing(self, name):
        """The set of the kept CLAIMS that stand."""
        system, _, claims = self._row(name)
        return _standing_of(system, claims, ())

    def lost(self, name):
        """The set of those that are no CLAIMS of the SYSTEM."""
        system, _, claims = self._row(name)
        return tuple([claim for claim in claims if not is_claim_of(system, claim)])

    def sure(self, name):
        """The set of those that would stand if all runs began with the TURNS so far."""
        system, turns, claims = self._row(name)
        return _standing_of(system, claims, turns)

    def spoilt_by(self, name, edit):
        """The set of those that stand, and would not behind this EDIT."""
        system, _, claims = self._row(name)
        later = _standing_of(edited(system, edit), claims, ())
        return tuple([claim for claim in _standing_of(system, claims, ()) if claim not in later])

    def mended_by(self, name, edit):
        """The set of those that do not stand, and would behind this EDIT."""
        system, _, claims = self._row(name)
        later = _standing_of(edited(system, edit), claims, ())
        now = _standing_of(system, claims, ())
        return tuple([claim for claim in later if claim not in now])

    def _row(self, name):
        """The row of the SYSTEM of this name."""
        if name not in self._rows:
            raise NoSystem(name)
        return self._rows[name]

    def _remember(self):
        """Keep what is there to come back to it."""
        self._past.append(dict(self._rows))

    def _keep_row(self, name, row):
        """Have this row under the name, as one deed."""
        self._remember()
        self._rows[name] = row


def _standing_of(system, claims, turns):
    """Those of the CLAIMS that are some of the SYSTEM, and stand if all runs begin with TURNS."""
    outlook = Outlook(Plan(system), turns)
    return tuple([
        claim for claim in claims if is_claim_of(system, claim) and stands_in(outlook, claim)
    ])
