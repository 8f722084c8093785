"""Works, and values of all kinds, that several tests use."""

MILL = (
    "file a 2\nfile b 2\nfile c 3\nstep cut tree 2\n  reads a b\n  writes c\n"
    "step mix flat 1\n  reads c\n  writes b\n  claim ends"
)
# A step that writes two files, one of each other kind, a step called like a file.
YARD = (
    "file a 2\nfile b 3\nfile c 2\nfile d 2\nfile e 2\nstep a tree 2\n  reads a b\n  writes c d\n"
    "step glue sums 1\n  reads c\n  writes e\n  claim if c = 1 then e = 0"
)
# Files and steps whose names are words of the text.
WORDS = (
    "file file 2\nfile step 2\nfile reads 3\nfile if 2\nfile then 2\nfile fails 2\n"
    "step step row 2\n  reads if then file\n  writes fails reads\n  claim if if = 1 and then = 0 then fails\n"
    "  claim if then = 1 then fails = 1\n  claim if file = 0 then reads != 2\n"
    "step ends flat 1\n  reads fails\n  writes step\n  claim ends"
)


def nested(kind, depth):
    """A value that is nested so deep."""
    value = kind()
    for _ in range(depth - 1):
        value = {"x": value} if kind is dict else kind([value])
    return value


# Values of any kind; none of them is a name, a stand, a crew or a log of the works above.
ANY = [
    None, True, False, 0, 1, -1, 7, 10 ** 40, 10 ** 5000, "", "A", "zz", "a b", "cut ", "fail", (), (1,), ("cut",),
    ("fail",), [], ["cut"], ["a"], {}, {"a": 1}, (True,), (None, None), ((), ()), ([], {}),
    nested(tuple, 40), nested(list, 40), nested(dict, 40),
]

# Values of any kind, and others, that are no books of the mill.
NO_BOOKS = [value for value in ANY if value != ((), ())] + [
    (), ((("set", "a", 2),),), [()], ((("after", 0),),), ((), (), (), ()), ((("end", "cut", None),),), ((), [])]


def told_of(test, error, call, *values, **named):
    """The value of the error that the call raises."""
    with test.assertRaises(error) as held:
        call(*values, **named)
    test.assertIs(held.exception.__class__, error)
    return held.exception.value
