"""All the way from text to bits, every paper on it, and the way back."""

import random
import unittest

from bitfloor.back import read_back
from bitfloor.bitplay import BitPlayer
from bitfloor.bitwriting import bits_row
from bitfloor.errors import FloorError, NoRoom, NoSense, NoText, NoWays
from bitfloor.fitcheck import fit_holds
from bitfloor.fitting import fitted
from bitfloor.floors import Floor
from bitfloor.leading import led
from bitfloor.making import all_hold, made_whole, same_again
from bitfloor.meetscheck import alike_holds
from bitfloor.modules import Module
from bitfloor.netplay import NetPlayer
from bitfloor.nets import Net, ins_of
from bitfloor.opening import opened_net
from bitfloor.packing import pack_holds, packed
from bitfloor.packs import Pack
from bitfloor.placing import placed, places_hold
from bitfloor.raising import bits_of_row, raised, row_of_bits
from bitfloor.reading import read_modules
from bitfloor.scene import Scene
from bitfloor.sense import faces
from bitfloor.shrinking import made_small
from bitfloor.signals import signals_of
from bitfloor.smallcheck import small_holds
from bitfloor.tables import Tables
from bitfloor.wayscheck import ways_hold
from bitfloor.writing import written_modules
from samples import STRANGE, TextMaker, bits_of, lists_in, random_bits, with_kind
from wholetexts import COUNTER, GREAT, NO_INS, TEXTS, USED, WIDE, WIRES

FLOOR = Floor(6, 6, 6)
NAMES = ("modules", "floor", "net", "small", "shrinking", "tables", "fit", "pack", "packing", "places", "steps", "ways",
         "bits")
PAPERS = ("shrinking", "fit", "packing", "places", "steps", "ways", "bits")


def bent(made, name, thing):
    spot = NAMES.index(name)
    return made[:spot] + (thing,) + made[spot + 1:]


def part(made, name):
    return made[NAMES.index(name)]


def fields(thing):
    return vars(thing)


class MadeTest(unittest.TestCase):
    def assert_whole(self, made):
        """All thirteen things are of their kinds, each is taken by its checker, and the bits tell what the text means."""
        self.assertIs(type(made), tuple)
        modules, floor, net, small, shrinking, tables, fit, pack, packing, places, steps, ways, bits = made
        self.assertTrue(type(modules) is list and all(isinstance(module, Module) for module in modules))
        for thing, kind in ((floor, Floor), (net, Net), (small, Net), (shrinking, tuple), (tables, Tables), (fit, list),
                            (pack, Pack), (packing, list), (places, list), (steps, list), (ways, list), (bits, str)):
            self.assertIsInstance(thing, kind)
        self.assertIs(small_holds(net, small, shrinking), True)
        self.assertIs(fit_holds(small, tables, fit), True)
        self.assertIs(pack_holds(tables, pack, packing), True)
        self.assertIs(places_hold(pack, floor, places, steps), True)
        self.assertIs(ways_hold(pack, floor, places, ways), True)
        self.assertEqual(bits, bits_row(pack, floor, places, ways))
        self.assertIs(all_hold(made), True)
        paper = same_again(made)
        self.assertIsNotNone(paper)
        self.assertIs(alike_holds(small, opened_net(read_back(bits)[0])[0], paper), True)

    def assert_tells(self, made, seed, beats=30):
        modules = made[0]
        in_faces, out_faces = faces(modules)
        scene = Scene(modules)
        player = BitPlayer(made[-1])
        maker = TextMaker(seed)
        for beat in range(beats):
            row = maker.row([wide for name, wide in in_faces])
            self.assertEqual(row_of_bits(out_faces, player.beat(bits_of_row(in_faces, row))), scene.beat(row))

    def test_texts(self):
        for seed, text in enumerate(TEXTS):
            made = made_whole(text, FLOOR, 100, 100)
            self.assert_whole(made)
            self.assert_tells(made, seed)

    def test_each_thing_is_made_of_what_stands_ahead(self):
        for text, most in ((COUNTER, 0), (COUNTER, 3), (USED, 100), (WIRES, 100)):
            made = made_whole(text, FLOOR, most, 50)
            self.assertEqual(written_modules(part(made, "modules")), text)
            self.assertEqual(fields(part(made, "floor")), fields(FLOOR))
            self.assertEqual(fields(part(made, "net")), fields(raised(read_modules(text))))
            small, shrinking = made_small(part(made, "net"))
            self.assertEqual((fields(part(made, "small")), part(made, "shrinking")), (fields(small), shrinking))
            tables, fit = fitted(small)
            self.assertEqual((fields(part(made, "tables")), part(made, "fit")), (fields(tables), fit))
            pack, packing = packed(tables)
            self.assertEqual((fields(part(made, "pack")), part(made, "packing")), (fields(pack), packing))
            self.assertEqual((part(made, "places"), part(made, "steps")), placed(pack, FLOOR, most))
            self.assertLessEqual(len(part(made, "steps")), most)
            self.assertEqual(part(made, "ways"), led(pack, FLOOR, part(made, "places"), 50))
            self.assert_whole(made)

    def test_many_texts(self):
        count = 0
        for seed in range(60):
            text = TextMaker(seed, 2 + seed % 3).text()
            try:
                made = made_whole(text, Floor(8, 8, 8), seed % 30, 20)
            except (NoRoom, NoWays):
                continue
            self.assert_whole(made)
            self.assert_tells(made, seed, 8)
            count += 1
        self.assertGreater(count, 45)

    def test_a_great_text(self):
        made = made_whole(GREAT, Floor(10, 10, 8), 100, 100)
        self.assertGreater(len(part(made, "pack").blocks), 80)
        self.assert_whole(made)
        self.assert_tells(made, 5, 60)

    def test_what_is_told_is_the_askers_own(self):
        made = made_whole(COUNTER, FLOOR, 10, 10)
        found = lists_in(made)
        self.assertEqual(len({id(thing) for thing in found}), len(found))
        again = with_kind(made[8:], list)
        for thing in found:
            thing.clear()
        self.assertEqual(with_kind(made_whole(COUNTER, FLOOR, 10, 10)[8:], list), again)


class RefusalTest(unittest.TestCase):
    def refusal(self, text, floor=FLOOR, most=10, rounds=10):
        with self.assertRaises(FloorError) as caught:
            made_whole(text, floor, most, rounds)
        return caught.exception

    def test_no_text(self):
        for text, line in (("", 0), ("module a", 1), ("module a\nout b 1:1\nend\n", 3), ("module a\nout b\nend", 1)):
            refusal = self.refusal(text)
            self.assertIs(type(refusal), NoText)
            self.assertEqual(refusal.line, line)

    def test_no_sense(self):
        for text, line in (("module a\nend", 1), ("module a\nin b 17\nout b b\nend", 1), ("module a\nout b c\nend", 1),
                           ("module a\nin b 1\nout c (plus b 2:2)\nend", 2)):
            refusal = self.refusal(text)
            self.assertIs(type(refusal), NoSense)
            self.assertEqual(refusal.line, line)

    def test_no_room(self):
        # eight ins and six outs want fourteen pads
        self.assertIs(type(self.refusal(WIDE, Floor(1, 5, 8))), NoRoom)
        self.assertIs(type(self.refusal(WIDE, Floor(2, 2, 8))), NoRoom)
        blocks = len(packed(fitted(made_small(raised(read_modules(NO_INS)))[0])[0])[0].blocks)
        self.assertEqual(blocks, 3)
        self.assertIs(type(self.refusal(NO_INS, Floor(1, 2, 8))), NoRoom)
        self.assertEqual(len(made_whole(NO_INS, Floor(1, 3, 8), 0, 10)[9]), 3)

    def test_no_ways(self):
        refusal = self.refusal(COUNTER, FLOOR, 10, 0)
        self.assertIs(type(refusal), NoWays)
        self.assertEqual(refusal.signal, 0)
        refusal = self.refusal(WIDE, Floor(10, 10, 1), 0, 3)
        self.assertIs(type(refusal), NoWays)
        self.assertIn(refusal.signal, range(40))

    def test_the_first_due(self):
        # a row that has no sense stands ahead of one that can not be read
        self.assertIs(type(self.refusal("module a\nout b c\nout\nend", Floor(1, 1, 1), 0, 0)), NoText)
        self.assertIs(type(self.refusal("module a\nin a 16\nin b 16\nout b c\nend", Floor(1, 1, 1), 0, 0)), NoSense)
        self.assertIs(type(self.refusal(COUNTER, Floor(1, 1, 1), 0, 0)), NoRoom)
        self.assertIs(type(self.refusal(COUNTER, FLOOR, 0, 0)), NoWays)


class AllHoldTest(unittest.TestCase):
    @classmethod
    def setUpClass(cls):
        cls.made = made_whole(USED, FLOOR, 20, 100)
        cls.other = made_whole(COUNTER, FLOOR, 20, 100)

    def holds(self, made):
        answer = all_hold(made)
        self.assertIs(type(answer), bool)
        return answer

    def test_lists_for_tuples(self):
        self.assertTrue(self.holds(self.made))
        self.assertTrue(self.holds(list(self.made)))
        for name in PAPERS[:-1]:
            for kind in (list, tuple):
                self.assertTrue(self.holds(bent(self.made, name, with_kind(part(self.made, name), kind))), name)

    def test_parts_of_another(self):
        for name in NAMES[2:]:
            self.assertFalse(self.holds(bent(self.made, name, part(self.other, name))), name)
        for floor in (Floor(6, 7, 6), Floor(7, 6, 6), Floor(6, 6, 7), Floor(6, 6, 1), Floor(1, 1, 6)):
            self.assertFalse(self.holds(bent(self.made, "floor", floor)))

    def test_bits_with_one_sign_exchanged(self):
        bits = part(self.made, "bits")
        source = random.Random(1)
        for place in [0, 39, 40, len(bits) - 1] + [source.randrange(len(bits)) for count in range(20)]:
            turned = bits[:place] + ("1" if bits[place] == "0" else "0") + bits[place + 1:]
            self.assertFalse(self.holds(bent(self.made, "bits", turned)))
        for other in ("", bits[:-1], bits + "0", bits + "\n", " " + bits):
            self.assertFalse(self.holds(bent(self.made, "bits", other)))

    def test_nets_bent(self):
        for name in ("net", "small"):
            net = part(self.made, name)
            gates = list(net.gates)
            number = max(number for number, gate in enumerate(gates) if gate[0] == "xor")
            gates[number] = ("or",) + gates[number][1:]
            self.assertFalse(self.holds(bent(self.made, name, Net(gates, net.outs))))
            self.assertFalse(self.holds(bent(self.made, name, Net(net.gates, net.outs[1:]))))
            self.assertFalse(self.holds(bent(self.made, name, Net(net.gates, net.outs[1:] + net.outs[:1]))))

    def test_tables_and_packs_bent(self):
        tables = part(self.made, "tables")
        for number in range(len(tables.tables)):
            rows = list(tables.tables)
            rows[number] = (rows[number][0], rows[number][1] ^ 1)
            turned = Tables(tables.ins, rows, tables.keeps, tables.outs)
            self.assertFalse(self.holds(bent(self.made, "tables", turned)))
        pack = part(self.made, "pack")
        for number in range(len(pack.blocks)):
            blocks = list(pack.blocks)
            blocks[number] = (blocks[number][0], blocks[number][1] ^ 1) + blocks[number][2:]
            self.assertFalse(self.holds(bent(self.made, "pack", Pack(pack.ins, blocks, pack.outs))))

    def test_papers_bent(self):
        lost, pairs = part(self.made, "shrinking")
        self.assertFalse(self.holds(bent(self.made, "shrinking", (lost, pairs[:-1]))))
        fit = part(self.made, "fit")
        self.assertFalse(self.holds(bent(self.made, "fit", fit[1:] + fit[:1])))
        packing = part(self.made, "packing")
        self.assertFalse(self.holds(bent(self.made, "packing", packing[1:] + packing[:1])))
        places = part(self.made, "places")
        self.assertFalse(self.holds(bent(self.made, "places", places[1:] + places[:1])))
        steps = part(self.made, "steps")
        self.assertGreater(len(steps), 2)
        for number in range(len(steps)):
            self.assertFalse(self.holds(bent(self.made, "steps", steps[:number] + steps[number + 1:])))
        ways = part(self.made, "ways")
        for number, (drives, joins, taps) in enumerate(ways):
            for way in (([], joins, taps), (drives, joins, taps[:-1]), (drives, joins + [((0, 0), 1, 0, 0)], taps)):
                self.assertFalse(self.holds(bent(self.made, "ways", ways[:number] + [way] + ways[number + 1:])))

    def test_other_ways_that_hold(self):
        ways = part(self.made, "ways")
        doubled = [(drives * 2, joins, taps) for drives, joins, taps in ways]
        self.assertTrue(self.holds(bent(self.made, "ways", doubled)))

    def test_things_of_other_kinds(self):
        for strange in STRANGE + (None, [], (), 0, {}, 1.5):
            for name in PAPERS:
                self.assertFalse(self.holds(bent(self.made, name, strange)), (name, strange))
            self.assertFalse(self.holds(strange))
        for name in ("floor", "net", "small", "tables", "pack"):
            for thing in (None, 3, "net", [], part(self.made, "pack" if name != "pack" else "net")):
                self.assertFalse(self.holds(bent(self.made, name, thing)), name)
        self.assertFalse(self.holds(self.made[:-1]))
        self.assertFalse(self.holds(self.made + (0,)))


class SameAgainTest(unittest.TestCase):
    def test_texts_on_many_floors(self):
        count = 0
        for text in TEXTS:
            for floor in (Floor(4, 10, 8), Floor(10, 3, 8), Floor(7, 7, 5), Floor(10, 10, 3)):
                for most in (0, 7):
                    try:
                        made = made_whole(text, floor, most, 20)
                    except (NoRoom, NoWays):
                        continue
                    paper = same_again(made)
                    self.assertIs(type(paper), list)
                    self.assertTrue(alike_holds(part(made, "small"), opened_net(read_back(made[-1])[0])[0], paper))
                    count += 1
        self.assertGreater(count, 30)

    def tells_the_same(self, small, bits, beats):
        player = NetPlayer(small)
        other = BitPlayer(bits)
        return all(player.beat(row) == other.beat(row) for row in random_bits(1, beats, len(ins_of(small))))

    def test_a_bit_of_a_table_turned_over(self):
        told = []
        for text in TEXTS:
            made = made_whole(text, FLOOR, 20, 100)
            bits = part(made, "bits")
            pack = part(made, "pack")
            size = (len(bits) - 40 - 24 * (6 + 3)) // 36
            for block, cell in zip(pack.blocks, part(made, "places")):
                for row in range(2 ** len(block[0])):
                    place = 40 + (cell[0] * 6 + cell[1]) * size + row
                    turned = bits[:place] + ("1" if bits[place] == "0" else "0") + bits[place + 1:]
                    paper = same_again(bent(made, "bits", turned))
                    if not self.tells_the_same(part(made, "small"), turned, 60):
                        self.assertIsNone(paper)
                    told.append(paper is None)
        self.assertGreater(told.count(True), 100)

    def test_bits_that_play_no_part(self):
        made = made_whole(COUNTER, FLOOR, 20, 100)
        bits = part(made, "bits")
        size = (len(bits) - 40 - 24 * (6 + 3)) // 36
        free = [number for number in range(36) if (number // 6, number % 6) not in part(made, "places")]
        for number in free[:5]:
            place = 40 + number * size
            self.assertIsNotNone(same_again(bent(made, "bits", bits[:place] + "1" * 16 + bits[place + 16:])))

    def test_bits_of_another(self):
        made = made_whole(COUNTER, FLOOR, 20, 100)
        for bits in (part(made_whole(USED, FLOOR, 20, 100), "bits"), bits_of((6, 6, 6)), bits_of((6, 6, 6), 4, 4), "",
                     part(made, "bits")[:-1], "x" * 50):
            self.assertIsNone(same_again(bent(made, "bits", bits)))

    def test_a_kept_cell_more_or_less(self):
        made = made_whole(COUNTER, FLOOR, 20, 100)
        bits = part(made, "bits")
        size = (len(bits) - 40 - 24 * (6 + 3)) // 36
        for number in range(36):
            place = 40 + number * size + 16
            turned = bits[:place] + ("1" if bits[place] == "0" else "0") + bits[place + 1:]
            self.assertIsNone(same_again(bent(made, "bits", turned)))

    def test_what_is_told_is_the_askers_own(self):
        made = made_whole(COUNTER, FLOOR, 20, 100)
        paper = same_again(made)
        found = lists_in(paper)
        self.assertEqual(len({id(thing) for thing in found}), len(paper) + 1)
        length = len(paper)
        for thing in found:
            thing.clear()
        self.assertEqual(len(same_again(made)), length)
        self.assertTrue(all_hold(made))


class SignalCountTest(unittest.TestCase):
    def test_as_many_tracks_as_signals(self):
        text = "module few\nin a 2\nkeep k 1 1\nnext k (xor k (part a 0 1))\nout o (and k (part a 1 1))\nend"
        pack = packed(fitted(made_small(raised(read_modules(text)))[0])[0])[0]
        count = len(signals_of(pack))
        self.assertLessEqual(count, 8)
        for rounds in (1, 2):
            made = made_whole(text, Floor(2, 2, count), 0, rounds)
            self.assertTrue(all_hold(made))


if __name__ == "__main__":
    unittest.main()
