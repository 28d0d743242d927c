"""What many tests need: what a call refuses, and values of all kinds."""

from uselots.errors import UseError
from uselots.runs import Run
from uselots.texts import Program


def refused(call, *told, **named):
    """(error's class, its value) of what a call raises; None if it raises nothing of the package's own."""
    try:
        call(*told, **named)
    except UseError as error:
        return type(error), error.value
    return None


class Refusals:
    """For test cases: a call raises just this error, with this very value."""

    def assert_refused(self, kind, value, call, *told, **named):
        try:
            call(*told, **named)
        except UseError as error:
            self.assertIs(type(error), kind, (told, named))
            self.assertIs(error.value, value, (told, named))
            return
        self.fail(f"{kind.__name__} was not raised for {told} {named}")

    def assert_refused_equal(self, kind, value, call, *told, **named):
        """The same for a value that the call makes itself."""
        met = refused(call, *told, **named)
        self.assertIsNotNone(met, (told, named))
        self.assertIs(met[0], kind, (told, named))
        self.assertEqual((type(met[1]), met[1]), (type(value), value), (told, named))


def deep(many):
    """A list nested so many deep."""
    value = []
    for _ in range(many - 1):
        value = [value]
    return value


def any_values():
    """Values of all kinds that the document calls any value."""
    program = Program("run 1")
    return [
        0, 1, -1, 7, 10 ** 8, True, False, None, "", "x", "run", "need", "1", (), (1,), (1, 2), ("run",), ("run", 1, 1),
        [], [1], ["run", 1], {}, {"run": 1}, {1: [2]}, program, Run(program, "need"), deep(60), (deep(59),),
        ("run", True), ("run", None), ("run", "1"), (None, 1), (["run"], 1), ("run", [1]), ((), ()), ((("run", 1), 1),),
    ]
