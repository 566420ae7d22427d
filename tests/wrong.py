"""How functions are tried with wrong arguments: one wrong one, two wrong ones, and errors behind "then"."""

import copy

from tests.samples import junk


class Parameter:
    """A parameter: a right value, the error for a wrong one, the attribute that keeps it, and wrong values."""

    def __init__(self, name, right, error, wrong, keeps=None, keyword=False):
        self.name = name
        self.right = right
        self.error = error
        self.wrong = wrong
        self.keeps = keeps
        self.keyword = keyword


class Case:
    """A function with its parameters, and the calls that are refused behind "then"."""

    def __init__(self, name, called, parameters, then=()):
        self.name = name
        self.called = called
        self.parameters = parameters
        self.then = then

    def call(self, values):
        """Call the function with values in the order of the parameters."""
        ahead = [value for value, known in zip(values, self.parameters) if not known.keyword]
        named = {known.name: value for value, known in zip(values, self.parameters) if known.keyword}
        return self.called(*ahead, **named)

    def rights(self):
        """The right values."""
        return [known.right for known in self.parameters]


def without(values, right):
    """The values but for those that are right."""
    return [value for value in values if not right(value)]


def wrong_integers(least, most):
    """Values that are no integers from the least to the most one."""
    values = junk() + [least - 1, most + 1, str(least), (least,), [least], 10 ** 60, -10 ** 60, 10 ** 61]
    return without(values, lambda value: type(value) is int and least <= value <= most)


def wrong_primes():
    """Values that are none of the four primes."""
    return junk() + [0, 1, 4, 6, 8, 9, 11, 13, -2, -7, "2", (2,), [3], 10 ** 60, 2 * 10 ** 99]


def wrong_rows(prime, width):
    """Values that are no rows of the width."""
    right = (1,) * width
    values = junk() + [
        right + (0,), right[1:], (prime,) + right[1:], right[1:] + (-1,), (True,) + right[1:], right[1:] + (False,),
        list(right), (right,), ("1",) + right[1:], (None,) + right[1:], ((1,),) + right[1:], right[1:] + (10 ** 60,), (),
        "1" * width, right[1:] + ([1],), right[1:] + ({},), 0, 1,
    ]
    return without(values, lambda value: type(value) is tuple and len(value) == width and all(
        type(number) is int and 0 <= number < prime for number in value))


def wrong_row_tuples(prime, width, most):
    """Values that are no tuples of at most so many rows of the width."""
    right = (1,) * width
    return without(junk(), lambda value: value == ()) + [
        [right], (right, list(right)), (right, right + (1,)), (right, right[1:]), (right, (prime,) + right[1:]),
        (right, (True,) + right[1:]), right, ((right,),), (right, None), (right,) * (most + 1), (right, right[1:] + (-1,)),
        {right: right}, "rows", (right, right[1:] + ("1",)),
    ]


def wrong_spaces(prime, width):
    """Values that are no spaces of the width."""
    unit = (1,) + (0,) * (width - 1)
    last = (0,) * (width - 1) + (1,)
    ones = (1,) * width
    values = [(unit + (0,),), (list(unit),), [unit], ((0,) * width,), ((True,) + unit[1:],), unit, ((prime,) + unit[1:],)]
    if width > 1:
        values += [(last, unit), (ones, last), (unit, unit), (unit, (0,) * width), (unit, unit[1:])]
        values += [(unit,) * (width + 1), (unit, last[:-1] + (False,) + ())]
    if prime > 2:
        values += [((2,) + unit[1:],), ((prime - 1,) * width,)]
    return without(junk(), lambda value: value == () and type(value) is tuple) + values


def run_case(test, case):
    """Try a function with all its wrong arguments, one and two at a time, and behind "then"."""
    try_right(test, case)
    checked = [at for at, known in enumerate(case.parameters) if known.error is not None]
    for at in checked:
        for wrong in case.parameters[at].wrong:
            try_wrong(test, case, case.rights(), {at: wrong})
            for later in [k for k in checked if k > at]:
                others = case.parameters[later].wrong
                try_wrong(test, case, case.rights(), {at: wrong, later: others[len(repr(wrong)) % len(others)]})
    for values, error, keeps, kept in case.then:
        expect(test, case, values, error, keeps, kept)
        for at in checked:
            for wrong in case.parameters[at].wrong[:40:3]:
                try_wrong(test, case, values, {at: wrong})


def try_right(test, case):
    """Two right calls have equal results, and change nothing."""
    values = case.rights()
    before = copy.deepcopy(values)
    with test.subTest(case=case.name, call="right"):
        first, second = case.call(values), case.call(values)
        test.assertEqual(first, second)
        test.assertIs(type(first), type(second))
        test.assertEqual(values, before)


def try_wrong(test, case, values, wrong):
    """The first one of the wrong arguments is told."""
    changed = [wrong.get(at, value) for at, value in enumerate(values)]
    known = case.parameters[min(wrong)]
    expect(test, case, changed, known.error, known.keeps, wrong[min(wrong)])


def expect(test, case, values, error, keeps, kept):
    """A call raises just this error, which keeps this value, and changes nothing."""
    before = repr(values)
    with test.subTest(case=case.name, values=before[:300]):
        with test.assertRaises(error) as caught:
            case.call(values)
        test.assertIs(type(caught.exception), error)
        if keeps is not None:
            held = getattr(caught.exception, keeps)
            test.assertIs(type(held), type(kept))
            test.assertEqual(held, kept)
        test.assertEqual(repr(values), before)
