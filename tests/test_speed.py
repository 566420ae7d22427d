"""Asking many members of one ring: the answers stay the same, in any sequence, and come soon [6.1] to [6.3], [6.7]."""

import copy
import time
import unittest

from tablerings.base.spaces import does_hold
from tablerings.errors import Refused
from tablerings.rings.idempotents import (
    central_parting, is_idempotent, is_least_idempotent, is_like_paper, is_parting, leading_unit, led_up, like_paper,
    parting,
)
from tablerings.rings.radical import is_nilpotent, nil_paper, radical, trace_spaces
from tablerings.rings.rings import Ring
from tests.samples import F2, N4, S3, U3, V4, all_rings, multiplied, rows_of, turned
from tests.test_idempotents import is_parting_by_trial, least_by_trial

# For each of the rings below, as they are made and then told by other base members: which members, ascending, are
# idempotents, least idempotents, have a power 0, and are units, as the binary digits of a number; the central parting; J;
# and the length of a parting. These are the answers that were given before anything was kept with a ring.
ANSWERS = (
    (0xaa0a0a00aaa0a000, 0x2808080080808000, 0xc0c0c0000000000c, 0x3303030330, ((0, 0, 0, 0, 1, 0), (1, 0, 0, 1, 0, 0)), ((0, 0, 0, 0, 0, 1),), 3),
    (0xde540c06de8ac090, 0x5a50080280808080, 0xa0a0a0a000000000, 0x5050505, ((1, 0, 0, 1, 0, 1),), ((0, 1, 0, 0, 0, 0), (0, 0, 1, 0, 0, 0), (0, 0, 0, 0, 1, 0)), 3),
    (0x8214142882141428, 0x2141428, 0x8001010240808001, 0x6880800180010116, ((0, 0, 0, 1, 1, 0), (1, 0, 0, 1, 1, 0)), ((1, 1, 1, 1, 1, 1),), 3),
    (0xdede00dededede00, 0x5a80008080008000, 0xa000a00000000000, 0x50005, ((0, 0, 0, 1, 0, 1), (1, 0, 1, 0, 0, 0)), ((0, 1, 0, 0, 0, 0), (0, 0, 0, 0, 1, 0)), 4),
    (0x192402034900800001001, 0x92402024900800001001, 0x124804000001040000410, 0x1f8fdb6ee7ab6deaee, ((1, 0, 0, 1),), (), 2),
    (0x1b0180c36180c00000000, 0xa0100820100800000000, 0x100804000000000000000, 0x361b0d86c361b, ((0, 0, 0, 1), (1, 0, 1, 0)), ((0, 1, 0, 0),), 3),
    (0x100000020000000000000, 0x20000000000000, 0x1ffffffc0000000000000, 0x3fffffffffffff, ((1, 0, 0, 0),), ((0, 1, 0, 0), (0, 0, 1, 0), (0, 0, 0, 1)), 1),
    (0x120, 0x20, 0x100, 0xff, ((1, 0),), (), 1),
    (0x104000024000000000000, 0x4000004000000000000, 0x100401000000000000000, 0x3bfeffbfeffbfe, ((0, 0, 2, 0), (1, 0, 1, 0)), ((0, 1, 0, 1),), 2),
    (0x64b4800, 0x24a4800, 0x4900000, 0x1b6db, ((1, 0, 1),), ((0, 1, 0),), 2),
    (0x1080000, 0x80000, 0x1f00000, 0xfffff, ((1, 0),), ((0, 1),), 1),
    (0x18c0000, 0x880000, 0x1000000, 0x7bdef, ((0, 1), (1, 0)), (), 2),
    (0x1820800000000, 0x800800000000, 0x1000000000000, 0x3f7df7df7df, ((0, 1), (1, 6)), (), 2),
    (0x1020000000000, 0x20000000000, 0x1000000000000, 0xffffffffffff, ((1, 0),), (), 1),
    (0x8080, 0x80, 0x9669, 0x6996, ((1, 0, 0, 0),), ((1, 0, 0, 1), (0, 1, 0, 1), (0, 0, 1, 1)), 1),
    (0x8000002080000020, 0x2000000020, 0x8000000000000000, 0x7febfcdbeef5b79f, ((0, 1, 1, 0, 1, 0), (1, 1, 1, 0, 1, 0)), (), 2),
    (0xa88a8008a22a2002, 0x8a800000282000, 0x8240410200040020, 0x10040820018380c1, ((0, 0, 1, 1, 0, 0), (1, 0, 0, 0, 1, 0)), ((0, 1, 0, 1, 1, 1),), 3),
    (0x8a03e6169d925430, 0x9d925030, 0x9090090900000000, 0x60600606, ((1, 1, 0, 1, 0, 1),), ((0, 1, 0, 1, 0, 0), (0, 0, 1, 0, 0, 0), (0, 0, 0, 0, 1, 1)), 3),
    (0x9900222200994444, 0x900020200804040, 0x8404484001001000, 0x1800810a12a021, ((0, 0, 0, 1, 0, 0), (1, 0, 1, 1, 1, 1)), ((0, 1, 0, 1, 0, 0),), 3),
    (0x989146263fcff3fc, 0x1001400402081040, 0x8004200100000000, 0x210084000000000, ((0, 1, 0, 1, 0, 1), (0, 1, 1, 1, 1, 0)), ((0, 1, 0, 0, 1, 0), (0, 0, 1, 1, 0, 1)), 4),
    (0x18122020001400004a188, 0x8122020001400004a108, 0x100108500401000200010, 0x2ecc50fdae8bf7db5ec6, ((2, 2, 0, 1),), (), 2),
    (0x10c060700000002a1108a, 0x8040600000002010080, 0x100804000000000000000, 0x31389c4d4aa552, ((0, 2, 1, 1), (2, 0, 1, 0)), ((0, 1, 0, 0),), 3),
    (0x100000000000000000010, 0x10, 0x10a2a285430a2a151430a, 0xf5d5d7abcf5d5eaebcf5, ((2, 2, 1, 1),), ((1, 0, 0, 1), (0, 1, 0, 2), (0, 0, 1, 2)), 1),
    (0x108, 0x8, 0x100, 0xff, ((1, 2),), (), 1),
    (0x140000000180000000000, 0x40000000080000000000, 0x124000000000000000000, 0xfffffff6d007fc01b6, ((0, 0, 0, 2), (1, 1, 0, 1)), ((0, 0, 1, 0),), 2),
    (0x4007f00, 0x7e00, 0x7000000, 0xff81c0, ((2, 0, 0),), ((0, 0, 1),), 2),
    (0x1000200, 0x200, 0x1020502, 0xfdfafd, ((3, 0),), ((1, 2),), 1),
    (0x1480004, 0x80004, 0x1000000, 0xf69dcb, ((1, 0), (4, 2)), (), 2),
    (0x1000040400800, 0x40400000, 0x1000000000000, 0xff5dbf93fb75, ((2, 4), (3, 5)), (), 2),
    (0x1000000000200, 0x200, 0x1000000000000, 0xffffffffffff, ((5, 4),), (), 1),
    (0x8040, 0x40, 0x9999, 0x6666, ((1, 0, 0, 1),), ((1, 0, 0, 0), (0, 1, 0, 0), (0, 0, 1, 1)), 1),
    (0x8000001001000008, 0x1000008, 0x8000000000000000, 0x7fde6fbefa7efc77, ((1, 0, 0, 1, 1, 1), (1, 1, 1, 1, 0, 0)), (), 2),
)


def rings():
    """Rings of at most 81 members."""
    found = [
        Ring.both(Ring.full(2, 2), Ring.of_poly(2, (0, 0, 1))), U3, S3, Ring.both(Ring.stairs(2, 2), Ring.stairs(2, 2)),
        Ring.full(3, 2), Ring.both(Ring.stairs(3, 2), Ring.full(3, 1)), N4, Ring.of_poly(3, (1, 0, 1)),
        Ring.of_poly(3, (0, 0, 1, 0, 1)), Ring.stairs(3, 2), Ring.of_poly(5, (0, 0, 1)), Ring.both(Ring.full(5, 1), Ring.full(5, 1)),
        Ring.of_poly(7, (0, 6, 1)), Ring.of_poly(7, (1, 0, 1)), V4, Ring.of_poly(2, (1, 1, 1, 1, 1, 1, 1)),
    ]
    return found + turned(found, 8)


def as_number(members, judge):
    """The number whose binary digits tell of which members something is true."""
    number = 0
    for member in members:
        number = 2 * number + int(judge(member))
    return number


def answers(ring, members):
    """What is told of all members, asked one after the other."""
    return [
        as_number(members, lambda member: is_idempotent(ring, member)),
        as_number(members, lambda member: is_least_idempotent(ring, member)),
        as_number(members, lambda member: is_nilpotent(ring, member)),
        as_number(members, ring.is_unit), central_parting(ring), radical(ring), len(parting(ring)),
    ]


def time_of(call):
    """The least time that a call takes, of several."""
    times = []
    for _ in range(7):
        start = time.perf_counter()
        call()
        times.append(time.perf_counter() - start)
    return min(times)


class AnswersTest(unittest.TestCase):
    def test_as_before(self):
        self.assertEqual(len(ANSWERS), len(rings()))
        for ring, told in zip(rings(), ANSWERS):
            self.assertLessEqual(ring.many, 81)
            members = rows_of(ring.prime, ring.size)
            for _ in range(2):
                self.assertEqual(answers(ring, members), list(told))
                self.assertEqual(len(trace_spaces(ring)[-1]), len(told[5]))
                self.assertIs(is_parting(ring, parting(ring)), True)

    def test_in_any_sequence(self):
        """What was asked before does not matter, nor which of several equal rings is asked."""
        for ring in rings():
            members = rows_of(ring.prime, ring.size)
            one, other = Ring(ring.prime, ring.table), Ring(ring.prime, ring.table)
            found = [parting(one), central_parting(one), radical(one), trace_spaces(one)]
            ahead = [is_least_idempotent(one, member) for member in members]
            behind = [is_least_idempotent(other, member) for member in members[::-1]]
            fresh = [is_least_idempotent(Ring(ring.prime, ring.table), member) for member in members[::9]]
            self.assertEqual([ahead[::-1], ahead[::9]], [behind, fresh])
            self.assertEqual([trace_spaces(other), radical(other), central_parting(other), parting(other)], found[::-1])
            self.assertEqual(parting(copy.deepcopy(other)), found[0])
            self.assertTrue(one == other == ring)

    def test_least_idempotents_and_partings(self):
        for ring in rings()[::3]:
            members, least = rows_of(ring.prime, ring.size), least_by_trial(ring)
            self.assertEqual([member for member in members if is_least_idempotent(ring, member)], least)
            self.assertTrue(is_parting_by_trial(ring, least, parting(ring)))

    def test_led_up_and_papers(self):
        for ring in rings()[::2]:
            nil = radical(ring)
            for member in rows_of(ring.prime, ring.size):
                gap = ring.added(ring.product(member, member), ring.times(-1, member))
                if does_hold(ring.prime, ring.size, nil, gap):
                    found = led_up(ring, member)
                    self.assertIs(is_idempotent(ring, found), True)
                    self.assertTrue(does_hold(ring.prime, ring.size, nil, ring.added(found, ring.times(-1, member))))
                else:
                    self.assertRaises(Refused, led_up, ring, member)
                inside = does_hold(ring.prime, ring.size, nil, member)
                self.assertEqual(nil_paper(ring, (member,))[0], "power" if inside else "stays")

    def test_like_papers_of_all_idempotents(self):
        """[6.3], [6.7]"""
        for ring in rings()[::2]:
            some = [member for member in rows_of(ring.prime, ring.size) if is_idempotent(ring, member)][::3]
            group = [(ring.inverse(member), member) for member in rows_of(ring.prime, ring.size) if ring.is_unit(member)]
            for e in some:
                led = {ring.product(ring.product(back, e), unit) for back, unit in group}
                for f in some:
                    found = like_paper(ring, e, f)
                    self.assertEqual(found is not None, f in led)
                    self.assertIs(is_like_paper(ring, e, f, found), f in led)

    def test_nothing_is_shared(self):
        """What is returned is no state of the ring, and rings that are made of a ring share nothing with it."""
        for ring in all_rings(3)[::5]:
            for call in (radical, trace_spaces, parting, central_parting):
                self.assertIsInstance(call(ring), tuple)
            twin = copy.deepcopy(ring)
            self.assertEqual([twin, parting(twin)], [ring, parting(ring)])


class TimeTest(unittest.TestCase):
    def test_all_members(self):
        """All members are asked within ten times what they take; the machine is measured by products made entry by entry."""
        ring = Ring.both(Ring.full(2, 2), Ring.of_poly(2, (0, 0, 1)))
        members = rows_of(2, 6)

        def asked():
            fresh = Ring(2, ring.table)
            return [is_least_idempotent(fresh, member) for member in members]

        def measured():
            return [multiplied(ring, member, ring.one) for member in members * 2]

        self.assertEqual(sum(asked()), bin(ANSWERS[0][1]).count("1"))
        self.assertLess(time_of(asked), 10 * time_of(measured))

    def test_what_is_kept(self):
        """Asked again, a ring answers at once; no call goes the long way anew."""
        for ring in (Ring.full(2, 3), Ring.both(Ring.full(3, 2), Ring.of_poly(3, (0, 0, 1)))):
            first, rows = parting(ring), rows_of(2, ring.size)[:40]
            again = time_of(lambda: [call(ring) for call in (radical, trace_spaces, parting, central_parting)])
            self.assertLess(again, 10 * time_of(lambda: [multiplied(ring, row, ring.one) for row in rows]))
            self.assertEqual(parting(ring), first)

    def test_leading_units(self):
        one = parting(F2)
        measured = time_of(lambda: [multiplied(F2, row, F2.one) for row in rows_of(2, 4) * 3])
        self.assertLess(time_of(lambda: leading_unit(F2, one, one[::-1])), 10 * measured)


if __name__ == "__main__":
    unittest.main()
