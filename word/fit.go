package word

import (
	"latchwork/api"
	"latchwork/basics"
)

// shape: operations of one shape ask alike for their widths.
type shape int

const (
	noShape  shape = iota
	oneAlike       // KindNot, KindNeg
	twoAlike       // KindAnd to KindShr
	compared       // KindEq, KindLess, KindSigned
	chosen         // KindIf
	joined         // KindJoin
	cutOut         // KindCut
	widened        // KindWide, KindSpread
)

// ask is what an operation asks of one width.
type ask int

const (
	anything ask = iota
	oneBit
	alike    // the operation's width
	likeA    // a's width
	restOfA  // what a's width leaves of the operation's
	reaching // at least N and the operation's width
	atMost   // at most the operation's width
)

// demand: what a shape asks of its own width, and of those of a, b, c.
type demand struct{ own, a, b, c ask }

// shapeOf tells shapes by runs of kinds, so that the map of demands stays small: it is made in each call.
func shapeOf(kind int) shape {
	switch {
	case !basics.IsOperation(kind):
		return noShape
	case kind <= api.KindNeg:
		return oneAlike
	case kind <= api.KindShr:
		return twoAlike
	case kind <= api.KindSigned:
		return compared
	case kind == api.KindIf:
		return chosen
	case kind == api.KindJoin:
		return joined
	case kind == api.KindCut:
		return cutOut
	}
	return widened
}

func demands() map[shape]demand {
	return map[shape]demand{
		oneAlike: {a: alike},
		twoAlike: {a: alike, b: alike},
		compared: {own: oneBit, b: likeA},
		chosen:   {a: oneBit, b: alike, c: alike},
		joined:   {b: restOfA},
		cutOut:   {a: reaching},
		widened:  {a: atMost},
	}
}

func (d demand) met(width, n int, widths [3]int) bool {
	meets := func(asked ask, by int) bool {
		switch asked {
		case oneBit:
			return by == 1
		case alike:
			return by == width
		case likeA:
			return by == widths[0]
		case restOfA:
			return by == width-widths[0]
		case reaching:
			// Not N and the width together: a great N would wrap round.
			return n >= 0 && n <= by-width
		case atMost:
			return by <= width
		}
		return true
	}
	return meets(d.own, width) && meets(d.a, widths[0]) && meets(d.b, widths[1]) && meets(d.c, widths[2])
}

// inRange: are the widths that api names for a kind widths, and the others 0?
func inRange(kind int, widths [3]int) bool {
	named := basics.Words(kind)
	for i, width := range widths {
		if i < named && !basics.IsWidth(width) || i >= named && width != 0 {
			return false
		}
	}
	return true
}
