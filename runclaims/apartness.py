"""STEP FORMULAS that tell two nodes of a graph apart, made from what lies behind them.

A chooser tells for a pair of nodes that are told alike a triple (goal, others, turned):
a node behind the first one (turned: the second one), and the nodes behind the other one,
from each of which it can be told apart less deep, those that need most depth last.
"""

from runclaims.formulaparts import all_of, literal_between
from runclaims.likeness import depth_apart
from runclaims.stepformulas import bits_leading, bits_telling, goal_masks


class Frame:
    """Two nodes that are being told apart.

    goal, waiting, turned: what the chooser told, of the others those from which the goal
    is not yet told apart; parts: the FORMULAS for the goal so far; bits: the nodes at
    which all of them are true.
    """

    def __init__(self, chosen, every):
        self.goal = chosen[0]
        self.waiting = chosen[1]
        self.turned = chosen[2]
        self.parts = []
        self.bits = every


def formula_between(sets, behind, choose, pair):
    """A STEP FORMULA that is true at the first node of a pair and not at the second one."""
    every, masks = (1 << len(sets)) - 1, goal_masks(behind)
    made = {}
    todo = [pair]
    frames = {}
    while todo:
        wanted = todo[-1]
        one, other = wanted
        if sets[one] != sets[other]:
            made[wanted] = _made_at_once(sets, one, other, every)
            todo.pop()
            continue
        if wanted not in frames:
            frames[wanted] = Frame(choose(wanted), every)
        frame = frames[wanted]
        _take_made(frame, made)
        if frame.waiting:
            todo.append((frame.goal, frame.waiting[-1]))
        else:
            made[wanted] = _ended(frame, masks, every)
            todo.pop()
    return made[pair][0]


def _made_at_once(sets, one, other, every):
    """A word or not a word that is true at one node and not at the other, and where it is true."""
    formula = literal_between(sets[one], sets[other])
    if formula[0] == "word":
        return formula, bits_telling(sets, formula[1])
    return formula, every & ~bits_telling(sets, formula[1][1])


def _take_made(frame, made):
    """Take for the goal of a Frame the FORMULAS that are made, as long as they are."""
    while frame.waiting and (frame.goal, frame.waiting[-1]) in made:
        formula, bits = made[(frame.goal, frame.waiting[-1])]
        frame.parts.append(formula)
        frame.bits &= bits
        frame.waiting = [node for node in frame.waiting if bits & (1 << node)]


def _ended(frame, masks, every):
    """The FORMULA of a Frame for which nobody waits, and the nodes at which it is true."""
    formula, bits = ("some", all_of(frame.parts)), bits_leading(masks, frame.bits)
    if frame.turned:
        return ("not", formula), every & ~bits
    return formula, bits


def chooser_by_lots(found, behind):
    """The chooser for nodes in lots apart; found as lots_by_depth tells it."""
    def choose(pair):
        one, other = pair
        lots = found[depth_apart(found, one, other) - 1]
        goal, others = _least_unmatched(found, lots, behind[one], behind[other])
        if goal is not None:
            return goal, others, False
        goal, others = _least_unmatched(found, lots, behind[other], behind[one])
        return goal, others, True

    return choose


def _least_unmatched(found, lots, row, others):
    """Of those in row that are in no lot with one of others that which is told apart from
    them all the least deep, and the others; (None, None) if there is none."""
    matched = {lots[node]: True for node in others}
    best = (None, None)
    least = None
    for goal in row:
        if lots[goal] not in matched:
            depths = sorted([(depth_apart(found, goal, node), node) for node in others])
            if least is None or depths[-1][0] < least:
                least = depths[-1][0]
                best = (goal, [node for _, node in depths])
    return best


def chooser_by_following(follow, behind):
    """The chooser for nodes that do not follow; follow tells how deep one must look."""
    def choose(pair):
        one, other = pair
        best = (None, None, False)
        least = None
        for goal in behind[one]:
            depths = [(follow.depth(goal, node), node) for node in behind[other]]
            if not any([depth is None for depth, _ in depths]):
                depths = sorted(depths)
                if least is None or depths[-1][0] < least:
                    least = depths[-1][0]
                    best = (goal, [node for _, node in depths], False)
        return best

    return choose
