"""Texts that are made all the way, with used modules, keepers and every word of the language."""

COUNTER = """module count
in step 3
in stop 1
keep now 3 5
next now (pick stop now (plus now step))
out now now
out over (less (plus now step) now)
end"""

USED = """module bit
in set 1
in now 1
keep held 1 1
next held (pick set now held)
out was held
out turned (not held)
end
module two
in set 1
in word 2
use low bit set (part word 0 1)
use high bit (not set) (part word 1 1)
out word (join high.was low.was)
out odd (xor low.turned high.was)
end
module top
in set 1
in a 2
in b 2
keep last 2 3
use one two set (plus a b)
use other two (same a b) (and one.word (or a last))
let sum (xor one.word other.word)
let lesser (less sum last)
next last (pick lesser (join one.odd other.odd) 2:2)
out sum sum
out flag (and lesser (not other.odd))
out last last
end"""

WIDE = """module add
in a 4
in b 4
out sum (plus a b)
out lower (less a b)
out equal (same a b)
end"""

NO_INS = """module blink
keep now 2 1
let more (plus now 1:2)
next now more
out now now
out last (same now 3:2)
end"""

NO_CHANGE = """module still
in a 2
out one 1:1
out word (join 2:2 (part (xor a a) 0 1))
out a a
end"""

WIRES = """module wires
in a 3
in b 1
keep c 2 2
keep d 2 1
next c d
next d (part a 1 2)
out b b
out a (part a 0 1)
out c c
end"""

MERGED = """module merged
in a 1
in b 1
in c 1
let none (and (and a b) (and (not a) c))
keep k 1 0
keep m 1 0
next k none
next m (or none k)
out none (or none (and k m))
out all (or (or a b) (or (not a) c))
end"""

# so many blocks that more than a hundred steps would bring less stretch
GREAT = """module wide
in a 8
in b 8
in c 3
keep k 8 77
let s (plus a b)
let t (xor (plus k s) b)
next k (pick (less a b) t (plus k a))
out k (and k s)
out lower (less t (join (part a 0 5) c))
end"""

TEXTS = (COUNTER, USED, WIDE, NO_INS, NO_CHANGE, WIRES, MERGED)
