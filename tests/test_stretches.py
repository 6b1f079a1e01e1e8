"""Point 4: each function about a stretch refuses one that is turned about or has no width, before all else."""

import unittest

from lookstop.errors import InvalidStretch
from lookstop.polys import Poly
from lookstop.signs import crossing_stretches, crossings, decide, greatest, is_certificate, sign_map, sign_row

POLYS = (Poly(), Poly(3), Poly(-1), Poly(-1, 2), Poly(1, -4, 4), Poly.path(20, 20))
CERTIFICATES = ((Poly(), Poly(), []), (Poly(1), Poly(-1, 2), [(0, 1), (1, 1)]), (Poly(3), Poly(1), [(1, 2)]))
TURNED = (((1, 1), (0, 1)), ((1, 2), (1, 3)), ((-1, 3), (-1, 2)), ((1, 3), (-1, 3)), ((10 ** 999 + 1, 10 ** 999), (1, 1)))
FLAT = (((0, 1), (0, 1)), ((1, 1), (1, 1)), ((1, 3), (1, 3)), ((-7, 2), (-7, 2)))
GREAT = Poly.of([1] * 41)((10 ** 999 + 1, 10 ** 999))


def calls(poly, low, high):
    """Each function of these modules that takes a stretch, called with it."""
    yield lambda: sign_row(poly, low, high)
    yield lambda: decide(poly, low, high)
    yield lambda: crossings(poly, low, high)
    for certificate in CERTIFICATES:
        yield lambda: is_certificate(poly, low, high, certificate)
    for narrow in (1, 1000, 1000000, 0, -1):
        yield lambda: sign_map(poly, low, high, narrow)
        yield lambda: crossing_stretches(poly, low, high, narrow)
        yield lambda: greatest(poly, low, high, narrow)


class StretchTest(unittest.TestCase):
    def assert_refused(self, low, high, polys=POLYS):
        for poly in polys:
            for number, call in enumerate(calls(poly, low, high)):
                with self.assertRaises(InvalidStretch, msg=number) as caught:
                    call()
                self.assertEqual((caught.exception.low, caught.exception.high), (low, high))

    def test_turned_about(self):
        for low, high in TURNED:
            self.assert_refused(low, high)

    def test_no_width(self):
        for low, high in FLAT:
            self.assert_refused(low, high)

    def test_ends_that_are_too_long_to_be_written(self):
        self.assert_refused(GREAT, GREAT)
        self.assert_refused(GREAT, (1, 1))

    def test_every_poly_whatever_its_degree(self):
        self.assert_refused((1, 2), (1, 2), [Poly.of([10 ** 999] * 41), Poly.of([1] * 60)])

    def answers(self):
        poly = Poly(-1, 0, 2)
        certificate = (Poly(1), Poly(-1, 2), [(1, 3), (2, 3)])
        return [sign_row(poly, (1, 3), (2, 3)), decide(poly, (1, 3), (2, 3)), crossings(poly, (1, 3), (1, 1)),
                is_certificate(Poly(1, -4, 4), (1, 3), (2, 3), certificate), sign_map(poly, (1, 3), (1, 1), 1000),
                crossing_stretches(poly, (1, 3), (1, 1), 1000), greatest(poly, (1, 3), (1, 1), 1000)]

    def test_right_answers_before_and_afterwards(self):
        before = self.answers()
        self.assertEqual(before[:1] + before[2:4], [[-7, -10, -1], 1, True])
        self.assertEqual(before[1][0], "fails")
        for low, high in TURNED + FLAT:
            self.assert_refused(low, high, [Poly(-1, 0, 2), Poly(1, -4, 4)])
        self.assertEqual(self.answers(), before)

    def test_stretches_that_are_very_short_are_right(self):
        great = 10 ** 999
        low, high = (1, great), (1, great - 1)
        self.assertEqual(sign_row(Poly(5), low, high), [5])
        self.assertEqual(decide(Poly(5, 1), low, high)[0], "holds")
        self.assertEqual(crossings(Poly(-2, 2 * great - 1), low, high), 1)
        self.assertEqual([piece[2] for piece in sign_map(Poly(-1, great), low, high, 1)], [1])
        self.assertEqual(greatest(Poly(4), low, high, 1)[1:], ((4, 1), (4, 1)))


if __name__ == "__main__":
    unittest.main()
