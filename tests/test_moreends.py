"""Point 32: the fewest ends."""

import unittest

from meettasks.bodies import deeds_along
from meettasks.errors import BadKind, BadOffers
from meettasks.moreends import fewest_ends, with_ends
from meettasks.programs import Program
from meettasks.unending import never_ends
from tests.makers import example_33_server, made_up, markets, nest, servers
from tests.objects import any_objects, raised
from tests.plain import world_of
from tests.test_strikes import lots_of

KINDS = ("any", "weak", "strong")
ARMS = [(None, "e", [("note", "x")]), ("f", "g", [("offer", [(None, "h", [])], None)])]


def own_offers(program):
    """All offers without an other, by looking at paths."""
    return sorted((task, path) for task in program.tasks() for path, deed in deeds_along(program.body(task))
                  if deed[0] == "offer" and deed[2] is None)


class EndsTest(unittest.TestCase):

    def test_example(self):
        program = example_33_server()
        offer = ("s", (0, 0, 0))
        for kind in KINDS:
            self.assertEqual(fewest_ends(program, kind), [(offer,)])
        ended = with_ends(program, [offer])
        self.assertEqual(ended.deed("s", (0, 0, 0)), ("offer", ((None, "a", ()),), ("end",)))
        self.assertIsNone(never_ends(ended, "any"))

    def test_with_ends_everywhere(self):
        deeds = [("if", "f", [("offer", ARMS, None)], [("pick", [[("offer", ARMS, None)], []])]),
                 ("again", [("offer", ARMS, ("else", [("leave",), ("offer", ARMS, None)]))]),
                 ("take", "k", [("offer", ARMS, ("end",))]), ("call", "a", "k", [("offer", ARMS, None)]),
                 ("set", "f", True), ("note", "x")]
        program = Program(nest({"a": deeds, "b": nest({"c": [("offer", ARMS, None)]}, [("offer", ARMS, None)])}))
        offers = own_offers(program)
        self.assertGreater(len(offers), 10)
        for lot in [offers, offers[::2], offers[3:5], []]:
            ended = with_ends(offers=[[task, list(path)] for task, path in lot], program=program)
            for task, path in offers:
                self.assertEqual(ended.deed(task, path)[2], ("end",) if (task, path) in lot else None)
            self.assertEqual(own_offers(ended), sorted(set(offers) - set(lot)))
            self.assertEqual(ended.tasks(), program.tasks())
        self.assertEqual(with_ends(program, ()), program)
        one = with_ends(with_ends(program, offers[:1]), offers[1:])
        self.assertEqual(one, with_ends(program, list(reversed(offers))))

    def test_none_and_never(self):
        program = Program([("note", "x")])
        self.assertEqual(fewest_ends(kind="any", program=program), [()])
        program = Program([("take", "e", [])])
        self.assertEqual(fewest_ends(program, "strong"), [])
        offer = [("offer", [(None, "e", [])], None)]
        program = Program(nest({"a": offer, "b": offer}))
        self.assertEqual(fewest_ends(program, "weak"), [(("a", (0,)), ("b", (0,)))])
        program = Program([("pick", [nest({"a": offer}), []])])
        self.assertEqual(fewest_ends(program, "weak"), [(("a", (0,)),)])

    def test_errors(self):
        program = example_33_server()
        good = ("s", (0, 0, 0))
        for thing in any_objects():
            if thing not in ([], ()):
                self.assertEqual(raised(with_ends, program, thing).index, 0)
            error = raised(with_ends, program, [good, thing])
            self.assertIsInstance(error, BadOffers)
            self.assertEqual(error.index, 1)
            if thing != "weak":
                error = raised(fewest_ends, program, thing)
                self.assertIsInstance(error, BadKind)
                self.assertIs(error.kind, thing)
        for thing in (("s", (0,)), ("x", (0,)), good, ("s", (False, 0, 0)), ("zz", (0, 0, 0))):
            self.assertEqual(raised(with_ends, program, [good, thing]).index, 1)
        self.assertEqual(raised(with_ends, with_ends(program, [good]), [good]).index, 0)

    def test_by_trying_out(self):
        seen = set()
        for seed in range(150):
            program = [servers, markets, made_up][seed % 3](seed)
            offers = own_offers(program)
            if not 0 < len(offers) <= 3 or len(world_of(program).runs) > 60:
                continue
            for kind in KINDS:
                works = [lot for lot in lots_of(offers) if never_ends(with_ends(program, lot), kind) is None]
                least = [lot for lot in works if not any(set(less) < set(lot) for less in works)]
                self.assertEqual(fewest_ends(program, kind), least)
                seen.add(tuple(len(lot) for lot in least[:1]))
                if "abort" not in repr([program.body(task) for task in program.tasks()]):
                    # An end more never bars.
                    more = [lot for lot in lots_of(offers) if any(set(less) <= set(lot) for less in least)]
                    self.assertEqual(works, more)
        self.assertGreaterEqual(seen, {(), (1,)})


if __name__ == "__main__":
    unittest.main()
