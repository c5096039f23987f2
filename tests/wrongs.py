"""Values of every kind that a checker may be asked of, none of which is a thing, a program or a way."""


def nested(make, deep, inmost):
    """The inmost value within so many others, each made around the one before."""
    told = inmost
    for count in range(deep):
        told = make(told)
    return told


def forty_deep():
    """Values that hold one another forty deep."""
    makers = [
        lambda inner: (inner,),
        lambda inner: [inner],
        lambda inner: {"a": inner},
        lambda inner: {0: (), 1: inner},
        lambda inner: (inner, 1),
        lambda inner: (1, inner),
        lambda inner: [(), inner],
        lambda inner: ("round", inner),
    ]
    deeper_makers = [
        lambda inner: ((), (inner,)),
        lambda inner: ("round", (inner,)),
        lambda inner: ("either", (inner,), ()),
        lambda inner: ("either", (), (inner,)),
        lambda inner: [{"a": inner}],
    ]
    steps = [(make, 39) for make in makers] + [(make, 19) for make in deeper_makers]
    return [nested(make, deep, inmost) for make, deep in steps for inmost in ((), [], {}, 1, None)]


def other_values():
    """Values of other kinds."""
    return [
        0, 1, -1, 7, 10 ** 12, True, False, None, "", "a", "thing", "rows", "(1, 1)", {}, {"a": 1},
        {0: 1, 1: 1}, {1: 1, 2: 2}, {None: None, True: ()}, {(1, 1): (1, 1)}, {"things": (), "items": ()},
    ] + forty_deep()
