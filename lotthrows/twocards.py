"""Two cards and a program: runs by which either of them comes out ahead."""

from lotthrows.throws import way_of

ENDS = ("ahead", "behind")
OTHER_END = {"ahead": "behind", "behind": "ahead"}
END_OF_WAY = {"ahead": "ahead", "kept": "ahead", "behind": "behind", "turned": "behind"}


def run_on_few(program, deck):
    """Return a run of a program on a deck of one card or none, which leaves it as it lies."""
    if program[0] == "row":
        return tuple([run_on_few(inner, deck) for inner in program[1]])
    if program[0] == "choice":
        return (0, run_on_few(program[1][0], deck))
    if program[0] == "parted":
        _, kinds, one, other = program
        first = tuple([kind for kind in deck if kind in kinds])
        second = tuple([kind for kind in deck if kind not in kinds])
        return (run_on_few(one, first), run_on_few(other, second), (0,) * len(first) + (1,) * len(second))
    # A throw leaves nothing to choose, and what may be done often is not done at all.
    return ()


def runs_of_row(programs, a, b):
    """Return for each end that programs, one after the other, lead to their runs on the deck (a, b)."""
    found = {"ahead": ()}
    for program in programs:
        longer = {}
        for end, runs in found.items():
            one, other = (a, b) if end == "ahead" else (b, a)
            for step, run in runs_to_ends(program, one, other).items():
                after = end if step == "ahead" else OTHER_END[end]
                longer.setdefault(after, runs + (run,))
        found = longer
    return found


def runs_of_choice(programs, a, b):
    """Return for each end that some program leads to its number and a run of it on the deck (a, b)."""
    found = {}
    for number, program in enumerate(programs):
        for end, run in runs_to_ends(program, a, b).items():
            found.setdefault(end, (number, run))
    return found


def runs_of_often(program, a, b):
    """Return for each end that a program leads to, if it is done any number of times, runs of it on the deck (a, b)."""
    found = {"ahead": ()}
    once = runs_to_ends(program, a, b)
    if "behind" in once:
        found["behind"] = (once["behind"],)
    return found


def runs_of_parts(kinds, one, other, a, b):
    """Return for each end that a parted program leads to a run of it on the deck (a, b)."""
    if a in kinds and b in kinds:
        rest = run_on_few(other, ())
        return {end: (run, rest, (0, 0)) for end, run in runs_to_ends(one, a, b).items()}
    if a not in kinds and b not in kinds:
        rest = run_on_few(one, ())
        return {end: (rest, run, (1, 1)) for end, run in runs_to_ends(other, a, b).items()}
    if a in kinds:
        runs = (run_on_few(one, (a,)), run_on_few(other, (b,)))
        return {"ahead": runs + ((0, 1),), "behind": runs + ((1, 0),)}
    runs = (run_on_few(one, (b,)), run_on_few(other, (a,)))
    return {"ahead": runs + ((1, 0),), "behind": runs + ((0, 1),)}


def runs_to_ends(program, a, b):
    """Return for each end that the card of the kind a can come to a run of a program on the deck (a, b)."""
    if program[0] == "throw":
        return {END_OF_WAY[way_of(program[1], a, b)]: ()}
    if program[0] == "row":
        return runs_of_row(program[1], a, b)
    if program[0] == "choice":
        return runs_of_choice(program[1], a, b)
    if program[0] == "often":
        return runs_of_often(program[1], a, b)
    _, kinds, one, other = program
    return runs_of_parts(kinds, one, other, a, b)
