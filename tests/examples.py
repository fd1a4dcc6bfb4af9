"""All examples of the document, in its order; they continue one another."""

EXAMPLES = """\
>>> from drawnrings.scripts import Script
>>> night = Script("cloth 2 5", "left 1 to 0", "right 1 to 20")
>>> [night.cloth, night.least, night.known, night.change, repr(night), len(Script("cloth 1 2")), Script.read(str(night)) == night, Script("cloth 1 2 from -9").cloth]
[(2, 5), 1, True, 0, 'Script of 2 moves', 0, True, (1, 2, -9)]
>>> [Script("cloth 1 9", "off left", "left 3 to -4", "on right 7").least, night.with_row(2, "some to 3").known, Script("cloth 2 5", "off left", "on right 1").change]
[4, False, 0]
>>> Script("cloth 2 2")
raises InvalidRows(index=0)
>>> from drawnrings.rails import Rail, is_standing, led
>>> rail = Rail((2, 5), (0, 3, 7, 9))
>>> [rail.move("left 1 to 4"), rail.move("right 2 to 20"), rail.draw(0, -3), rail.undo(), rail.places, rail.move("on left 11"), rail.move("off right")]
[(4, 6, 8, 10), (10, 15, 20, 22), (-3, 2, 7, 12), None, (10, 15, 20, 22), (11, 13, 15, 20, 22), (11, 13, 15, 20)]
>>> [led(night, (5, 7, 9, 11, 13, 15)), led(night, (3,)), is_standing((2, 5), (0, 6)), rail.changes, len(rail)]
[(0, 5, 9, 11, 15, 20), (20,), False, 4, 4]
>>> [led(Script("cloth 2 5 from 0", "right 1 to 3"), (1, 5, 9)), is_standing((2, 5, 0), (-1, 3)), Rail((2, 5, 4), (4, 6)).move("left 2 to 1")]
[(0, 2, 4), False, (4, 6)]
>>> rail = Rail((2, 5), (0, 3, 7, 9))
>>> [rail.follow(night), rail.changes, rail.undo(), rail.places]
[(5, 10, 15, 20), 2, None, (0, 3, 7, 9)]
>>> Rail((2, 5), (0, 3, 4))
raises InvalidStanding(index=2)
>>> from drawnrings.bounds import bounds, dark, reach, spread, sure
>>> [bounds(night, 5, 1), bounds(night, 4, 1), bounds(night, 6, 3), bounds(Script("cloth 2 5", "carry 7"), 3, 2), sure(night, 6), sure(night, 12)]
[(0, 0, 0), (0, 5, 5), (0, 5, 10), (7, None, None), ((1, 1), (6, 6)), ((1, 12),)]
>>> [bounds(Script("cloth 2 5 from 4", "carry 7"), 3, 2), bounds(Script("cloth 2 5 from 0", "right 1 to 9"), 4, 2), sure(Script("cloth 2 5 from 0", "right 1 to 6"), 9)]
[(7, 13, None), (0, 2, 5), ((1, 9),)]
>>> child = Script("cloth 2 5", "some to 0", "right 1 to 30")
>>> [reach(child, 3, 1), reach(Script("cloth 2 5"), 3, 1), sure(child, 3), bounds(night, 10 ** 30, 10 ** 30 - 3)]
[(20, 20), (None, None), ((1, 3),), (0, 14, 14)]
>>> [spread(night, 5), spread(night, 6), spread(Script("cloth 2 5"), 4), spread(Script("cloth 2 5", "left 1 to 0", "on left 0"), 2), dark(night, 6), dark(night, 4), dark(child, 1)]
[(20, 20), (20, 20), (6, 15), (4, 5), (0, 20), (5, 20), None]
>>> from drawnrings.asking import always_sure, covers, dark_from, frees, needless, parting, pruned
>>> [covers(night, 0, 20), covers(night, -3, 20), frees(night, 20, 30), frees(Script("cloth 2 5", "left 2 to 9"), 0, 4), covers(child, 3, 30), covers(Script("cloth 2 5 from 0", "left 3 to 9"), 4, 9)]
[((5, None),), ((13, None),), ((1, None),), ((2, None),), ((7, None),), ()]
>>> twice = Script("cloth 2 5", "left 1 to 9", "left 1 to 0")
>>> [parting(twice, Script("cloth 2 5", "left 1 to 0")), parting(night, Script("cloth 2 5", "left 1 to 3", "left 1 to 0", "right 1 to 20")), needless(Script("cloth 2 5", "right 1 to 8", "left 1 to 0", "left 1 to 0")), parting(night, Script("cloth 2 5", "off left"))]
[(2, 2), (6, 2), (2, 3), 'rings']
>>> [always_sure(night), always_sure(Script("cloth 2 5", "left 1 to 0")), always_sure(Script("cloth 1 3", "left 1 to 9", "right 1 to 0"))]
[11, None, 1]
>>> [pruned(Script("cloth 2 5", "left 1 to 9", "carry 0", "left 1 to 9", "right 2 to 4")).rows, dark_from(night, 4), dark_from(night, 13), dark_from(Script("cloth 2 5", "left 1 to 0"), 3), dark_from(Script("cloth 2 5", "right 1 to 0"), 2)]
[('cloth 2 5', 'left 1 to 9', 'right 2 to 4'), (5, 20), (-4, 20), (0, 4), (-2, 0)]
>>> from drawnrings.seen import starts_seen
>>> [starts_seen(Script("cloth 2 5", "left 1 to 0"), 3, ((2, 4),)), starts_seen(Script("cloth 2 5", "left 1 to 0"), 3, ((2, 5), (3, 7))), starts_seen(night, 5, ((1, 3),))]
[((-1, 2), (4, 4), (6, 9)), ((0, 3), (5, 5), (7, 7)), None]
>>> from drawnrings.mends import fault, mending
>>> [fault(night, ("covers", 0, 20, 1)), fault(night, ("covers", 0, 20, 5)), fault(night, ("still", 1)), fault(child, ("frees", 0, 2, 1)), fault(twice, ("alike", twice))]
[1, None, 6, 'some', None]
>>> mending(twice, ((1, "left 1 to 20"), (2, "right 1 to 0"), (2, "left 1 to -9"), (0, "cloth 4 5")), (("covers", 0, 30, 9),))
((0,), (3,))
>>> from drawnrings.desks import Desk
>>> desk = Desk()
>>> desk.put("hall", night)
>>> desk.wish(("hall", ("covers", 0, 20, 5)))
>>> [desk.names, desk.wishes, desk.changes, desk.tried(len)]
[('hall',), (('hall', ('covers', 0, 20, 5)),), 2, 1]
>>> desk.put("hall", Script("cloth 2 5", "left 1 to 0"))
raises Broken(index=0, shown=5)
>>> from drawnrings.certificates import certify_alike, certify_kept, certify_window
>>> from drawnrings.checker import accepts
>>> [certify_alike(twice, night)[0][0], certify_alike(night, night)[0][0], certify_window(night, 0, 20, 5)[0][0], certify_window(night, 20, 25, 9)[0][0], certify_kept(night, 0, 20, 3)[0][4], certify_alike(night, Script("cloth 2 6"))]
['unlike', 'alike', 'covered', 'free', 3, None]
>>> claim, paper = certify_kept(night, 0, 20, 5)
>>> [accepts(claim, paper), accepts(claim, 4), accepts(("unlike", str(twice), str(night), 2, 2), ()), accepts(("covered", str(night), 0, 20, 4), ())]
[True, False, True, False]
>>> from drawnrings.console import Console
>>> console = Console(night)
>>> [console.say(line) for line in ("least", "rings 7", "row 2", "ring 1 of 4", "ring 3 of 6", "sure of 6", "dark of 6", "covers 0 20", "frees 0 9")]
['1', '7', 'right 1 to 20', 'at 5', '5 to 10', '1, 6', '0 to 20', '5 on', '1 to 3']
"""
