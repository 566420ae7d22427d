"""Arrows and words [15.1] to [15.9]."""

import itertools
import random
import unittest

from tablerings.base.lines import reduced
from tablerings.base.polys import first_irreducible
from tablerings.base.spaces import does_hold, solution
from tablerings.errors import InvalidOperation, InvalidWeb, Refused, TooMany
from tablerings.rings.full import kinds
from tablerings.rings.ideals import ideal_product
from tablerings.rings.idempotents import central_parting, is_parting, leading_unit, like_paper, parting
from tablerings.rings.radical import radical
from tablerings.rings.rings import Ring, opposite, rebased
from tablerings.rooms.free import blocks_of_rooms
from tablerings.rooms.maps import map_number
from tablerings.rooms.rooms import Room
from tablerings.webs import webs as webs_module
from tablerings.webs.webs import arrow_numbers, basic_ring, is_basic, is_picture, picture, web_paths, web_ring
from tests.room_samples import rooms_of
from tests.samples import (
    C4, F2, K9, N4, PRIMES, S3, U3, V4, all_rings, chance_table, great_rings, junk, low_ring, multiplied, turned,
)
from tests.web_samples import (
    all_paths, chance_webs, ideal_by_words, long_line, members_of_paths, path_number, web_by_words, webs,
)


def triple(ring, one, x, other):
    """The product of three members."""
    return multiplied(ring, multiplied(ring, one, x), other)


def units(size):
    """The base members."""
    return tuple(tuple(1 if i == j else 0 for j in range(size)) for i in range(size))


def nil_powers(ring):
    """J, J J, and so on, as long as they are not 0."""
    powers = [radical(ring)]
    while powers[-1]:
        powers.append(ideal_product(ring, powers[-1], powers[0]))
    return powers[:-1]


def depth_by_words(ring):
    """The least depth from 2 on for which all products of so many members of J are 0."""
    return max(2, len(nil_powers(ring)) + 1)


def square_of(ring):
    """J J."""
    return (nil_powers(ring) + [(), ()])[1] if len(nil_powers(ring)) > 1 else ()


def corner_by_words(ring, rows, one, other):
    """The lot of all e x f with x in a space."""
    return reduced(ring.prime, [triple(ring, one, row, other) for row in rows])


def basic_rings(prime):
    """Rings that are basic and have a picture."""
    return [ring for ring in all_rings(prime) if set(kinds(ring)) == {(1, 1)}]


def is_integer(value):
    """Whether a value is an integer; True and False are none."""
    return type(value) is int


def is_word_by_words(prime, arrows, word, depth):
    """Whether a value is a word for arrows whose paths have fewer arrows than the depth."""
    if type(word) is not dict or not word:
        return False
    ends = set()
    for walk, number in word.items():
        if type(walk) is not tuple or not 2 <= len(walk) < depth:
            return False
        if not all(is_integer(at) and 0 <= at < len(arrows) for at in walk) or not (is_integer(number) and 1 <= number < prime):
            return False
        if any(arrows[one][1] != arrows[other][0] for one, other in zip(walk, walk[1:])):
            return False
        ends.add((arrows[walk[0]][0], arrows[walk[-1]][1]))
    return len(ends) == 1


def is_picture_by_words(ring, value):
    """Whether a value is a picture of a basic ring, by the document's words."""
    if type(value) is not tuple or len(value) != 4 or not is_integer(value[3]) or value[3] != depth_by_words(ring):
        return False
    some, told, words, depth = value
    nil, square, prime = radical(ring), square_of(ring), ring.prime
    if not is_parting(ring, some) or type(told) is not tuple or len(told) != len(nil) - len(square):
        return False
    for arrow in told:
        if type(arrow) is not tuple or len(arrow) != 3 or arrow[2] not in ring:
            return False
        start, end, member = arrow
        if not all(is_integer(at) and 0 <= at < len(some) for at in (start, end)):
            return False
        if triple(ring, some[start], member, some[end]) != member or not does_hold(prime, ring.size, nil, member):
            return False
    if len(reduced(prime, square + tuple(arrow[2] for arrow in told))) != len(nil):
        return False
    arrows = tuple(arrow[:2] for arrow in told)
    if type(words) is not tuple or len(words) > 200 or not all(is_word_by_words(prime, arrows, word, depth) for word in words):
        return False
    for word in words:
        total = (0,) * ring.size
        for walk, number in word.items():
            made = members_of_paths(ring, some, told, [(arrows[walk[0]][0], walk)])[0]
            total = tuple((a + number * b) % prime for a, b in zip(total, made))
        if any(total):
            return False
    paths = all_paths(len(some), arrows, depth)
    return len(paths) - len(ideal_by_words(prime, arrows, words, paths)) == ring.size


class WebTest(unittest.TestCase):
    def test_constants(self):
        names = ("MAX_POINTS", "MAX_ARROWS", "MAX_DEPTH", "MAX_PATHS")
        self.assertEqual([getattr(webs_module, name) for name in names], [9, 9, 10, 200])

    def check_web(self, prime, web):
        table, base = web_by_words(prime, *web)
        if len(base) > 9:
            for call in (web_ring, web_paths):
                with self.assertRaises(TooMany) as caught:
                    call(prime, *web)
                self.assertEqual(caught.exception.most, 9)
            return False
        self.assertEqual(web_paths(prime, *web), base)
        ring = web_ring(prime, *web)
        self.assertEqual(ring, Ring(prime, table))
        self.assertEqual(ring.one, tuple(1 if not walk else 0 for _, walk in base))
        self.assertEqual(base[:web[0]], tuple((point, ()) for point in range(web[0])))
        return True

    def test_known_webs(self):
        """[15.1] to [15.3]"""
        for prime in PRIMES:
            made = [self.check_web(prime, web) for web in webs(prime)]
            self.assertGreater(sum(made), 25)

    def test_webs_by_chance(self):
        for prime in PRIMES:
            made = [self.check_web(prime, web) for web in chance_webs(prime, 40, prime)]
            self.assertGreater(sum(made), 8)

    def test_known_rings(self):
        for prime in PRIMES:
            for depth in range(2, 10):
                self.assertEqual(web_ring(prime, 1, ((0, 0),), (), depth), Ring.of_poly(prime, (0,) * depth + (1,)))
            self.assertEqual(web_ring(prime, 1, ((0, 0),) * 3, (), 2), low_ring(prime, 4))
            self.assertEqual(web_ring(prime, 9, (), (), 2).size, 9)
            upper = web_ring(prime, 3, ((0, 1), (1, 2)), (), 3)
            # E(0, 0), E(1, 1), E(2, 2), E(0, 1), E(1, 2), E(0, 2)
            order = tuple(units(6)[at] for at in (0, 3, 5, 1, 4, 2))
            self.assertEqual(rebased(Ring.stairs(prime, 3), order), upper)

    def test_words_do_not_change(self):
        """What is passed is not changed, and equal words in another sequence tell the same."""
        word = {(1, 0): 1, (0, 1): 1}
        before = list(word.items())
        one = web_ring(2, 1, ((0, 0), (0, 0)), (word, {(0, 0): 1}), 3)
        self.assertEqual(list(word.items()), before)
        other = web_ring(2, 1, ((0, 0), (0, 0)), ({(0, 0): 1}, {(0, 1): 1, (1, 0): 1}, word), 3)
        self.assertEqual(one, other)

    def test_too_many_paths(self):
        """More than 200 paths come ahead of more than nine of the base; paths are counted with fewer arrows than the depth."""
        seen = {200: 0, 9: 0}
        cases = [(points, tuple((at % points, at * step % points) for at in range(count)), depth)
                 for points in (1, 2, 3, 5) for count in (2, 3, 5, 9) for step in (1, 2) for depth in range(2, 11)]
        for points, arrows, depth in cases:
            number = path_number(points, arrows, depth)
            most = 200 if number > 200 else 9 if number > 9 else None
            if most is None:
                self.assertEqual(web_ring(3, points, arrows, (), depth).size, number)
                continue
            with self.assertRaises(TooMany) as caught:
                web_paths(3, points, arrows, (), depth)
            self.assertEqual(caught.exception.most, most)
            seen[most] += 1
        self.assertGreater(min(seen.values()), 40)
        # Two loops: 2 ** depth - 1 paths; words keep the base small, and depth 8 is too much even so.
        words = ({(0, 1): 1}, {(1, 0): 1}, {(1, 1): 1})
        self.assertEqual(web_ring(5, 1, ((0, 0), (0, 0)), words, 7).size, 8)
        with self.assertRaises(TooMany) as caught:
            web_ring(5, 1, ((0, 0), (0, 0)), words, 8)
        self.assertEqual(caught.exception.most, 200)

    def test_just_two_hundred_paths(self):
        found = [(points, arrows, depth) for points in (1, 2, 3, 4) for count in (1, 2, 3, 4, 5)
                 for arrows in itertools.combinations_with_replacement(itertools.product(range(points), repeat=2), count)
                 for depth in (3, 4, 5, 6, 7) if path_number(points, arrows, depth) in (200, 201)]
        self.assertTrue(found)
        for points, arrows, depth in found[:60]:
            with self.assertRaises(TooMany) as caught:
                web_ring(2, points, arrows, (), depth)
            self.assertEqual(caught.exception.most, 9 if path_number(points, arrows, depth) == 200 else 200)
        further = [(points, arrows, depth + 1) for points, arrows, depth in found if path_number(points, arrows, depth + 1) > 200
                   and path_number(points, arrows, depth) == 200]
        self.assertTrue(further)
        for points, arrows, depth in further[:20]:
            with self.assertRaises(TooMany) as caught:
                web_ring(2, points, arrows, (), depth)
            self.assertEqual(caught.exception.most, 200)

    def test_arrows_beyond_the_points(self):
        for prime in PRIMES:
            for points in (1, 2, 9):
                for arrows in (((0, points),), ((points, 0),), ((points, points),), ((0, points + 1),), ((-1, 0),), ((0, 0), (0, points))):
                    for call in (web_ring, web_paths):
                        self.assertRaises(InvalidWeb, call, prime, points, arrows, (), 3)

    def test_many_words(self):
        words = tuple({walk: number} for walk in itertools.product(range(2), repeat=4) for number in (1, 2, 3, 4))[:64] * 3
        self.assertEqual(web_ring(5, 1, ((0, 0), (0, 0)), words + words[:8], 3).size, 7)
        self.assertRaises(InvalidWeb, web_ring, 5, 1, ((0, 0), (0, 0)), words + words[:9], 3)


class BasicTest(unittest.TestCase):
    def test_basic(self):
        """[15.4]"""
        for prime in PRIMES:
            for ring in all_rings(prime) + great_rings(prime):
                self.assertIs(is_basic(ring), set(kinds(ring)) == {(1, 1)})
                low = basic_ring(ring)
                again = Ring(prime, low.table)
                self.assertEqual([again, again.one], [low, low.one])
                self.assertEqual(kinds(low), tuple(sorted((1, d) for _, d in kinds(ring))))
                self.assertEqual([len(central_parting(low)), len(blocks_of_rooms(low))], [len(central_parting(ring))] * 2)
                self.assertEqual(sorted(map(len, blocks_of_rooms(low))), sorted(map(len, blocks_of_rooms(ring))))
                self.assertEqual(basic_ring(low).size, low.size)
                if max(m for m, _ in kinds(ring)) == 1:
                    self.assertEqual(low, ring)

    def sums(self, ring):
        """The sums of one member of each likeness of a parting."""
        lots = []
        for member in parting(ring):
            like = [lot for lot in lots if like_paper(ring, lot[0], member) is not None]
            if like:
                like[0].append(member)
            else:
                lots.append([member])
        return [tuple(sum(numbers) % ring.prime for numbers in zip(*some)) for some in itertools.product(*lots)]

    def corner_ring(self, ring, e):
        """The ring of all e r e by the reduced base of this space, and the base."""
        base = corner_by_words(ring, units(ring.size), e, e)
        leads = [next(at for at, number in enumerate(row) if number) for row in base]
        table = tuple(tuple(tuple(multiplied(ring, one, other)[at] for at in leads) for other in base) for one in base)
        return Ring(ring.prime, table), base

    def test_of_some_idempotent(self):
        for prime in PRIMES:
            for ring in all_rings(prime)[::2] + great_rings(prime)[:4]:
                self.assertIn(basic_ring(ring), [self.corner_ring(ring, e)[0] for e in self.sums(ring)])

    def cut(self, low, base, e, room):
        """The lot e M as a room over the ring of all e r e."""
        vectors = reduced(room.ring.prime, [room.led_by(e, unit) for unit in units(room.size)]) if room.size else ()
        leads = [next(at for at, number in enumerate(row) if number) for row in vectors]
        return Room(low, tuple(tuple(tuple(room.led_by(member, row)[at] for at in leads) for row in vectors) for member in base))

    def test_rooms_go_along(self):
        for prime in PRIMES:
            for ring in [Ring.full(prime, 2), Ring.of_moves(prime, ((1, 0, 2), (1, 2, 0))), Ring.both(Ring.full(prime, 2), Ring.stairs(prime, 2))]:
                for some in [ring] + turned([ring], 9):
                    e = self.sums(some)[-1]
                    low, base = self.corner_ring(some, e)
                    rooms = rooms_of(some, 6)[1:7]
                    cuts = [self.cut(low, base, e, room) for room in rooms]
                    for (one, cut), (other, cut_other) in itertools.product(zip(rooms, cuts), repeat=2):
                        self.assertEqual(map_number(cut, cut_other), map_number(one, other))


class ArrowTest(unittest.TestCase):
    def by_words(self, ring, some):
        nil, square = radical(ring), square_of(ring)
        return tuple(tuple(len(corner_by_words(ring, nil, e, f)) - len(corner_by_words(ring, square, e, f)) for f in some) for e in some)

    def moved(self, ring, some, seed):
        """Another parting: one that a unit leads to, in another sequence."""
        chance = random.Random(seed)
        while True:
            unit = tuple(chance.randrange(ring.prime) for _ in range(ring.size))
            if ring.is_unit(unit):
                break
        led = [triple(ring, ring.inverse(unit), e, unit) for e in some]
        chance.shuffle(led)
        return tuple(led)

    def test_numbers(self):
        """[15.5]"""
        for prime in PRIMES:
            for ring in all_rings(prime) + great_rings(prime)[::3]:
                some = parting(ring)
                numbers = arrow_numbers(ring, some)
                self.assertEqual(numbers, self.by_words(ring, some))
                other = self.moved(ring, some, ring.size)
                further = arrow_numbers(ring, other)
                # A renaming that leads the one parting to the other one leads the tables to one another, too.
                _, renaming = leading_unit(ring, some, other)
                self.assertEqual(numbers, tuple(tuple(further[renaming[i]][renaming[j]] for j in range(len(some))) for i in range(len(some))))
                self.assertEqual(arrow_numbers(opposite(ring), some), tuple(zip(*numbers)))

    def test_wrong_partings(self):
        for prime in PRIMES:
            ring = Ring.stairs(prime, 2)
            for value in junk() + [(), (ring.one,), parting(ring)[:1], parting(ring) + parting(ring)[:1], list(parting(ring)), None]:
                self.assertRaises(InvalidOperation, arrow_numbers, ring, value)


class PictureTest(unittest.TestCase):
    def check_picture(self, ring, by_words=True):
        found = picture(ring)
        self.assertIs(is_picture(ring, found), True)
        self.assertTrue(not by_words or is_picture_by_words(ring, found))
        some, told, words, depth = found
        for word in words:
            self.assertEqual(list(word), sorted(word))
        # [15.7]: the map that leads each path to the product of its members is that of the web's ring to the ring.
        arrows = tuple(arrow[:2] for arrow in told)
        made = web_ring(ring.prime, len(some), arrows, words, depth)
        paths = web_paths(ring.prime, len(some), arrows, words, depth)
        self.assertEqual(rebased(ring, tuple(members_of_paths(ring, some, told, paths))), made)
        self.assertEqual(arrow_numbers(ring, some), tuple(tuple(arrows.count((i, j)) for j in range(len(some))) for i in range(len(some))))
        return found

    def test_pictures(self):
        """[15.6], [15.7], [0.19]"""
        for prime in PRIMES:
            for ring in basic_rings(prime):
                found = self.check_picture(ring)
                again = picture(ring)
                self.assertEqual(found, again)
                for word, other in zip(found[2], again[2]):
                    self.assertIsNot(word, other)
            for web in webs(prime) + chance_webs(prime, 15, 3):
                if path_number(web[0], web[1], web[3]) <= 60:
                    paths = web_by_words(prime, *web)[1]
                    if len(paths) <= 9:
                        ring = web_ring(prime, *web)
                        some, told, _, depth = self.check_picture(turned([ring], 4)[0])
                        self.assertEqual(len(told), len(web[1]))
                        self.assertLessEqual(depth, max(2, web[3]))
                        # The picture that comes of the web itself, with its own words.
                        members = [(start, end, units(ring.size)[paths.index((start, (at,)))]) for at, (start, end) in enumerate(web[1])]
                        words = tuple(word for word in web[2] if all(len(walk) < depth_by_words(ring) for walk in word))
                        own = (units(ring.size)[:web[0]], tuple(members), words, depth_by_words(ring))
                        self.assertIs(is_picture(ring, own), is_picture_by_words(ring, own))

    def test_great_rings(self):
        for prime in PRIMES:
            for ring in great_rings(prime):
                if is_basic(ring):
                    self.check_picture(ring)
            ring = long_line(prime, 8)
            self.assertEqual(self.check_picture(ring, by_words=False)[3], 7)
            great = long_line(prime, 9)
            for call in (lambda: picture(great), lambda: is_picture(great, None), lambda: is_picture(great, picture(ring))):
                with self.assertRaises(TooMany) as caught:
                    call()
                self.assertEqual(caught.exception.most, 200)
            for other in (Ring.full(prime, 2), Ring.of_poly(prime, first_irreducible(prime, 2)), Ring.both(Ring.full(prime, 2), Ring.full(prime, 1))):
                for call in (lambda: picture(other), lambda: is_picture(other, None), lambda: is_picture(other, 7)):
                    with self.assertRaises(Refused) as caught:
                        call()
                    self.assertEqual(caught.exception.reason, ("basic",))

    def others(self, ring, found, seed):
        """Pictures that others could have made, and values next to them."""
        chance, prime = random.Random(seed), ring.prime
        some, told, words, depth = found
        unit = ring.one
        for _ in range(50):
            row = tuple(chance.randrange(prime) for _ in range(ring.size))
            unit = row if ring.is_unit(row) else unit
        led = [tuple(triple(ring, ring.inverse(unit), e, unit) for e in some),
               tuple((i, j, triple(ring, ring.inverse(unit), member, unit)) for i, j, member in told)]
        yield (led[0], led[1], words, depth)
        yield (some, told, words * 2, depth)
        yield (some, told, words[::-1], depth)
        yield (some, told, words[1:], depth)
        yield (some, told, words[:-1], depth)
        yield (some, told, (), depth)
        yield (some[::-1], tuple((len(some) - 1 - i, len(some) - 1 - j, member) for i, j, member in told), words, depth)
        yield (some, told[::-1], tuple({tuple(len(told) - 1 - at for at in walk): n for walk, n in word.items()} for word in words), depth)
        yield (some, told, tuple({walk: 2 * n % prime for walk, n in word.items()} for word in words), depth)
        square = square_of(ring)
        if square and told:
            bent = [tuple((a + b) % prime for a, b in zip(member, triple(ring, some[i], chance.choice(square), some[j]))) for i, j, member in told]
            yield (some, tuple((i, j, row) for (i, j, _), row in zip(told, bent)), words, depth)
            yield (some, tuple((i, j, row) for (i, j, _), row in zip(told, bent)), (), depth)
        yield (some, told, words, depth + 1)
        yield (some, told, words, depth - 1)
        yield (some, told, words, True)
        yield (some, told, list(words), depth)
        yield (some, list(told), words, depth)
        yield (list(some), told, words, depth)
        yield (some, told[1:], words, depth)
        yield (some, told + told[:1], words, depth)
        yield (some, told, words + ({},), depth)
        yield (some, told, words + ({(0,) * depth: 1},), depth)
        yield (some, told, words + ({(0, 0): 1},), depth)
        yield (some, told, words + ({(0, len(told)): 1},), depth)
        yield (some, told, words + ({(False, 0): 1},), depth)
        yield (some, told, words + ({(0, 0): True},), depth)
        yield (some, told, words + ({(0, 0): prime},), depth)
        yield (some, told, words + ({(0,): 1},), depth)
        yield (some, told, words + ({"00": 1},), depth)
        yield (some, told, words + (None,), depth)
        yield (some, told, words * 201, depth) if words else (some, told, ({(0, 0): 1},) * 201, depth)
        yield (some[1:], told, words, depth)
        yield (some, tuple((True, j, member) for _, j, member in told), words, depth)
        yield (some, tuple((j, i, member) for i, j, member in told), words, depth)
        yield (some, tuple((i, 10 ** 99, member) for i, _, member in told), words, depth)
        yield (some, tuple((i, j, ring.one) for i, j, _ in told), words, depth)
        yield (some, tuple((len(some), j, member) for _, j, member in told), words, depth)
        yield (some, tuple((i, len(some), member) for i, _, member in told), words, depth)
        yield (some, tuple((-1, j, member) for _, j, member in told), words, depth)
        yield (some, tuple((i, j) for i, j, _ in told), words, depth)
        yield (some, tuple((i, j, member, 0) for i, j, member in told), words, depth)
        yield (some, tuple([i, j, member] for i, j, member in told), words, depth)
        yield (some, tuple((i, j, list(member)) for i, j, member in told), words, depth)
        yield (some, tuple((i, j, member[1:]) for i, j, member in told), words, depth)
        yield (some, tuple((i, j, None) for i, j, _ in told), words, depth)
        yield (some, tuple(None for _ in told), words, depth)
        yield (some, tuple((i, j, told[0][2]) for i, j, _ in told), words, depth)
        yield (some, told, words)
        yield [some, told, words, depth]

    def test_judge(self):
        seen = {True: 0, False: 0}
        for prime in PRIMES:
            rings = basic_rings(prime)[::2] + [web_ring(prime, *web) for web in webs(prime)[8:24:2] if len(web_by_words(prime, *web)[1]) <= 9]
            for ring in rings:
                found = picture(ring)
                for value in self.others(ring, found, prime):
                    told = is_picture_by_words(ring, value)
                    self.assertIs(is_picture(ring, value), told, (ring, value))
                    seen[told] += 1
                for value in junk() + [None, (None,) * 4, ((),) * 4, found + (2,), (found,), dict(enumerate(found))]:
                    self.assertIs(is_picture(ring, value), False)
        self.assertGreater(min(seen.values()), 200)

    def test_equal_pictures(self):
        """[15.7]: rings with equal webs, words and depths are alike, by the maps of paths."""
        for prime in PRIMES:
            for web in webs(prime)[9:25:3]:
                if len(web_by_words(prime, *web)[1]) > 9:
                    continue
                ring = web_ring(prime, *web)
                table = chance_table(prime, ring.size, random.Random(8))
                other = rebased(ring, table)
                some, told, words, depth = picture(ring)
                # The same members, told by the other base.
                back = {rebased_row(ring, table, member): member for member in some + tuple(arrow[2] for arrow in told)}
                names = {member: row for row, member in back.items()}
                moved = (tuple(names[e] for e in some), tuple((i, j, names[member]) for i, j, member in told), words, depth)
                self.assertIs(is_picture(other, moved), True)

    def test_blocks(self):
        """[15.8]"""
        for prime in PRIMES:
            for ring in basic_rings(prime):
                some, told, _, depth = picture(ring)
                names = list(range(len(some)))
                for i, j, _ in told:
                    names = [names[i] if name == names[j] else name for name in names]
                lots = sorted(tuple(sum(numbers) % prime for numbers in zip(*[e for e, name in zip(some, names) if name == lot]))
                              for lot in set(names))
                self.assertEqual(tuple(lots), central_parting(ring))
                arrows = tuple(arrow[:2] for arrow in told)
                if path_number(len(some), arrows, len(some) + 1) == path_number(len(some), arrows, len(some)):
                    self.assertLessEqual(depth, max(2, len(some)))

    def test_of_size_one(self):
        for prime in PRIMES:
            for ring in (Ring.full(prime, 1), Ring.both(Ring.full(prime, 1), Ring.full(prime, 1))):
                found = picture(ring)
                self.assertEqual([sorted(found[0]), found[1:]], [sorted(parting(ring)), ((), (), 2)])
                self.assertEqual([web_ring(prime, len(found[0]), (), (), 2).size, is_basic(ring)], [ring.size, True])
                self.assertIs(is_picture(ring, (found[0], (), (), 3)), False)


def rebased_row(ring, table, member):
    """The row that tells a member by the rows of a table as base members."""
    return solution(ring.prime, table, member)


class NotTrueTest(unittest.TestCase):
    """[15.9]"""

    def test_equal_numbers_of_arrows(self):
        for prime in PRIMES:
            one, other = (web_ring(prime, 1, ((0, 0),), (), depth) for depth in (2, 3))
            self.assertEqual([arrow_numbers(ring, parting(ring)) for ring in (one, other)], [((1,),)] * 2)
            self.assertNotEqual(one.size, other.size)

    def test_words_are_told_in_one_way(self):
        for prime in PRIMES:
            ring = web_ring(prime, 1, ((0, 0), (0, 0)), ({(0, 0): 1}, {(1, 1): 1}), 3)
            some, told, words, depth = (units(5)[:1], ((0, 0, units(5)[1]), (0, 0, units(5)[2])), ({(0, 0): 1}, {(1, 1): 1}), 3)
            others = ({(0, 0): 1, (1, 1): 1}, {(1, 1): 1})
            self.assertEqual([ring.size, is_picture(ring, (some, told, words, depth)), is_picture(ring, (some, told, others, depth))], [5, True, True])

    def test_members_of_the_basic_ring(self):
        for prime in PRIMES:
            ring = Ring.full(prime, 2)
            self.assertLess(basic_ring(ring).many, ring.many)

    def test_arrows_of_the_opposite_ring(self):
        for prime in PRIMES:
            ring = web_ring(prime, 3, ((0, 1), (0, 2)), (), 2)
            some = units(5)[:3]
            self.assertEqual(arrow_numbers(ring, some), ((0, 1, 1), (0, 0, 0), (0, 0, 0)))
            self.assertEqual(arrow_numbers(opposite(ring), some), ((0, 0, 0), (1, 0, 0), (1, 0, 0)))

    def test_the_examples(self):
        self.assertEqual([is_basic(ring) for ring in (F2, U3, K9, S3, C4, N4, V4)], [False, True, False, False, True, True, True])


if __name__ == "__main__":
    unittest.main()
