"""Values and worlds that several tests need, and slow ways to find what the package finds."""

import itertools

from crossfarers.worlds import Web, World

NO_NAMES = (None, True, 1, "", "-", "A", "a b", "abcdefghi", ["ann"], ("ann",), {"ann": 1}, [], (), {})
NO_DAYS = (None, True, False, -1, 7, "0", "m", [0], (0,), {}, [], ())
NO_NUMBERS = (None, True, False, -1, "0", "m", [0], (0,), {}, [], ())
NO_DEEDS = (
    None, True, 0, "m", [], (), {}, ("ann", "bob"), ["ann", "bob", 0], ("ann", "bob", 0, 0), ("ann", "bob", 7),
    ("ann", "bob", -1), ("ann", "bob", True), ("ann", "bob", None), ("ann", "-", 0), ("A", "bob", 0), (1, "bob", 0),
    (["ann"], "bob", 0), ("ann", {}, 0), ("ann", "bob", [0]), (0, "ann", "bob"),
)
NO_HISTORIES = (
    None, True, 0, "", (), {}, ("ann", "bob", 0), (("ann", "bob", 0),), {("ann", "bob", 0): 1},
    [("ann", "bob", 0)] * 61, *[[deed] for deed in NO_DEEDS], [("ann", "bob", 0), ["ann", "bob", 0]],
)


def meeting_world():
    """Return a world whose travellers meet, settle together, stay, and have rests of unlike lengths."""
    web = Web(["m", "p", "q", "r"], [("m", "p"), ("p", "q"), ("m", "q")])
    plans = {"ann": ("m", "p", "q", "q"), "bob": ("m", "m", "q"), "cat": ("m", "p"), "dan": ("q", "p", "q"),
             "eve": ("q",)}
    return World(web, plans)


def example():
    """Return the two worlds of the example in the interface."""
    web = Web.full(["m", "p", "q", "u", "v", "w", "z"])
    world = World(web, {"ann": ("m", "p", "u"), "bob": ("m", "p", "v"), "cat": ("m", "q", "w"), "dan": ("m", "q", "z")})
    target = World(web, {"ann": ("m", "q", "w"), "bob": ("m", "q", "z"), "cat": ("m", "p", "v"),
                         "dan": ("m", "p", "u")})
    return world, target


def full_world(many):
    """Return a world of this many travellers with plans of seven towns of eight, who often meet."""
    web = Web.full(list("abcdefgh"))
    plans = {}
    for at, name in enumerate(["ann", "bob", "cat", "dan", "eve", "fay"][:many]):
        plans[name] = tuple("aabacabdcefgh"[at * step % 5] for step in range(7))
    return World(web, plans)


def pacing_world(last):
    """Return a world with 24, 24, 12 and 24 maps on days 0 to 3, and later one map, up to the last day."""
    rest = ("u",) * (last - 2)
    plans = {"ann": ("m",) * 4, "bob": ("m",) * 4, "cat": ("m",) * 4, "dan": ("m",) * 3 + rest,
             "eve": ("p", "p", "p", "m"), "fay": ("q", "q", "p", "m", "p")}
    return World(Web.full(["m", "p", "q", "u"]), plans)


def same_plans(*groups):
    """Return a world with groups of travellers with equal plans."""
    names = iter("abcdef")
    return World(Web.full(list("mpqu")), {next(names): plan for plan, many in groups for _ in range(many)})


def small_worlds(many, last=2, towns="mp"):
    """Return all worlds of this many travellers in the full web of these towns, with plans up to a last day."""
    web = Web.full(list(towns))
    rows = [plan for day in range(last + 1) for plan in itertools.product(towns, repeat=day + 1)]
    return [World(web, dict(zip(["ann", "bob", "cat"], plans))) for plans in itertools.product(rows, repeat=many)]


def plain_deeds(plans):
    """Return the deeds (x, y, day) with x < y that fit a dict of plans."""
    return [(x, y, day) for day in range(7) for x, y in itertools.combinations(sorted(plans), 2)
            if day < min(len(plans[x]), len(plans[y])) and plans[x][day] == plans[y][day]]


def plain_done(plans, deed):
    """Return the dict of plans after a deed that fits."""
    x, y, day = deed
    made = dict(plans)
    made[x] = plans[x][:day + 1] + plans[y][day + 1:]
    made[y] = plans[y][:day + 1] + plans[x][day + 1:]
    return made


def reached(world, towns=None):
    """Return the dict of the rows of each world that comes of the world to the fewest deeds, found by searching.

    If towns are told, only deeds in these towns are done.
    """
    found = {world.rows: 0}
    wave = [world.rows]
    while wave:
        later = []
        for rows in wave:
            for deed in plain_deeds(dict(rows)):
                if towns is not None and dict(rows)[deed[0]][deed[2]] not in towns:
                    continue
                made = tuple(sorted(plain_done(dict(rows), deed).items()))
                if made not in found:
                    found[made] = found[rows] + 1
                    later.append(made)
        wave = later
    return found


def worlds_reached(world):
    """Return the pairs of each world that comes of the world and the fewest deeds to it."""
    return [(World(world.web, dict(rows)), number) for rows, number in reached(world).items()]


def some_history(world, many, step=7):
    """Return a history of this many deeds that fit, picked by a fixed rule, with both orders of names."""
    plans = world.plans
    history = []
    for at in range(many):
        deeds = plain_deeds(plans)
        x, y, day = deeds[(at * step + 3) % len(deeds)]
        deed = (x, y, day) if at % 3 else (y, x, day)
        history.append(deed)
        plans = plain_done(plans, deed)
    return history
