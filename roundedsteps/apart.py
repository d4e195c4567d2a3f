"""Programs told apart: by which inputs, and how few of them."""

from roundedsteps.boxes import rows_in, whole_box
from roundedsteps.errors import BadPrograms, BadSeen
from roundedsteps.programs import Program
from roundedsteps.runs import answer_at, is_inputs
from roundedsteps.whole import is_ascending, is_just, is_whole

MOST_PROGRAMS = 6
LONGEST_SEEN = 40


def kinds(programs):
    """The numbers of the programs in lots, those of one lot parting nowhere."""
    check_programs(programs)
    return kinds_of(len(programs), all_cuts(programs))


def fewest_inputs(programs):
    """How few inputs part all programs that part anywhere, and such inputs."""
    check_programs(programs)
    lot = fewest_of(len(programs), all_cuts(programs))
    return (len(lot), lot)


def shows_fewest_inputs(programs, value):
    """Whether any value tells the fewest inputs that part all programs that part anywhere."""
    check_programs(programs)
    if not isinstance(value, tuple) or len(value) != 2 or not isinstance(value[1], tuple):
        return False
    if not all([is_inputs(programs[0], inputs) for inputs in value[1]]) or not is_ascending(value[1]):
        return False
    cuts = all_cuts(programs)
    if not is_just(value[0], len(value[1])) or value[0] != len(fewest_of(len(programs), cuts)):
        return False
    labels = (0,) * len(programs)
    for inputs in value[1]:
        labels = both_labels(labels, labels_of(answers_at(programs, inputs)))
    return labels == all_labels(len(programs), cuts)


def fitting(programs, seen):
    """The numbers of all programs that answer as it was seen."""
    check_programs(programs)
    check_seen(programs, seen)
    found = []
    for number, program in enumerate(programs):
        if all([answer_at(program, inputs) == answer for inputs, answer in seen]):
            found.append(number)
    return tuple(found)


def plan(programs):
    """A plan that finds the kind of a program with the fewest inputs at the worst, and how many these are."""
    check_programs(programs)
    cuts = all_cuts(programs)
    return plan_for(programs, cuts, tuple(range(len(programs))), {})


def shows_plan(programs, value):
    """Whether any value is a plan with the fewest inputs at the worst, and how many these are."""
    check_programs(programs)
    if not isinstance(value, tuple) or len(value) != 2:
        return False
    cuts = all_cuts(programs)
    everyone = tuple(range(len(programs)))
    many = plan_many(programs, kinds_of(len(programs), cuts), everyone, value[1])
    return is_just(value[0], many) and many == plan_for(programs, cuts, everyone, {})[0]


def all_cuts(programs):
    """All ways in which some inputs part the programs, as labels, each with the first such inputs."""
    cuts = {}
    for inputs in rows_in(programs[0], whole_box(programs[0])):
        cuts.setdefault(labels_of(answers_at(programs, inputs)), inputs)
    return cuts


def answers_at(programs, inputs):
    """What each program answers to the inputs."""
    return [answer_at(program, inputs) for program in programs]


def labels_of(answers):
    """For each answer, the place of the first one that is the same."""
    return tuple([answers.index(answer) for answer in answers])


def both_labels(one, other):
    """The labels of parts that both labels tell to be one."""
    return labels_of(list(zip(one, other)))


def all_labels(many, cuts):
    """The labels of so many programs that part nowhere."""
    labels = (0,) * many
    for cut in cuts:
        labels = both_labels(labels, cut)
    return labels


def kinds_of(many, cuts):
    """What kinds tells of so many programs that part in these ways."""
    return lots_by(tuple(range(many)), all_labels(many, cuts))


def lots_by(numbers, labels):
    """These numbers in lots, those with the same label in one, by their first ones."""
    found = {}
    for number in numbers:
        found.setdefault(labels[number], []).append(number)
    return tuple([tuple(lot) for lot in found.values()])


def fewest_of(many, cuts):
    """The fewest inputs, ascending, that part so many programs as far as all of these ways do."""
    wanted = all_labels(many, cuts)
    reached = {(0,) * many: ()}
    while wanted not in reached:
        # Each round takes one input more, so what is reached first is reached by the fewest.
        for labels, lot in list(reached.items()):
            for cut, inputs in cuts.items():
                reached.setdefault(both_labels(labels, cut), lot + (inputs,))
    return tuple(sorted(reached[wanted]))


def plan_for(programs, cuts, left, known):
    """How many inputs a plan for the programs that are left needs at the worst, and such a plan."""
    if left not in known:
        known[left] = best_plan(programs, cuts, left, known)
    return known[left]


def best_plan(programs, cuts, left, known):
    """What plan_for tells, worked out; known has what it tells of some lots of programs."""
    best = None
    for cut, inputs in cuts.items():
        lots = lots_by(left, cut)
        if len(lots) > 1:
            many = 1 + max([plan_for(programs, cuts, lot, known)[0] for lot in lots])
            if best is None or many < best[0]:
                best = (many, inputs, lots)
    if best is None:
        return (0, ("kind", left))
    many, inputs, lots = best
    rows = [(answer_at(programs[lot[0]], inputs), plan_for(programs, cuts, lot, known)[1]) for lot in lots]
    return (many, ("ask", inputs, by_answers(rows)))


def by_answers(rows):
    """Rows that begin with unlike answers, ascending, None ahead of all others."""
    silent = [row for row in rows if row[0] is None]
    answers = sorted([row[0] for row in rows if row[0] is not None])
    return tuple(silent + [row for answer in answers for row in rows if row[0] == answer])


def plan_many(programs, lots, left, value):
    """How many inputs any value needs at the worst as a plan for those that are left; None for what is no plan."""
    if not isinstance(value, tuple):
        return None
    if len(value) == 2 and value[0] == "kind":
        return 0 if is_just(value[1], left) and is_of_one(left, lots) else None
    if len(value) != 3 or value[0] != "ask" or not is_inputs(programs[0], value[1]):
        return None
    answers = answers_at(programs, value[1])
    parts = by_answers([(answers[lot[0]], lot) for lot in lots_by(left, labels_of(answers))])
    if len(parts) < 2 or not isinstance(value[2], tuple) or len(value[2]) != len(parts):
        return None
    found = []
    for row, (answer, lot) in zip(value[2], parts):
        if not isinstance(row, tuple) or len(row) != 2 or not is_just(row[0], answer):
            return None
        found.append(plan_many(programs, lots, lot, row[1]))
    return None if None in found else 1 + max(found)


def is_of_one(numbers, lots):
    """Whether all of these numbers are in one of the lots."""
    return any([all([number in lot for number in numbers]) for lot in lots])


def check_programs(programs):
    """Raise BadPrograms unless they are two to six of one grid, with the same inputs and as many results."""
    if not isinstance(programs, tuple) or not 2 <= len(programs) <= MOST_PROGRAMS:
        raise BadPrograms(programs)
    if not all([isinstance(program, Program) for program in programs]):
        raise BadPrograms(programs)
    one = programs[0]
    for other in programs[1:]:
        if one.grid != other.grid or one.inputs != other.inputs or len(one.told) != len(other.told):
            raise BadPrograms(programs)


def check_seen(programs, seen):
    """Raise BadSeen for what are no inputs of the programs with what was answered to them."""
    if not isinstance(seen, tuple) or len(seen) > LONGEST_SEEN:
        raise BadSeen(seen)
    if not all([is_answered(programs[0], part) for part in seen]):
        raise BadSeen(seen)


def is_answered(program, value):
    """Whether any value is inputs of the program with an answer that it could give to them."""
    if not isinstance(value, tuple) or len(value) != 2 or not is_inputs(program, value[0]):
        return False
    answer = value[1]
    if answer is None:
        return True
    return isinstance(answer, tuple) and len(answer) == len(program.told) and all([is_whole(part) for part in answer])
