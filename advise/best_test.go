package advise_test

import (
	"slices"
	"testing"

	"levy/advise"
	"levy/api"
)

func TestExample1(t *testing.T) {
	advises(t, "the example", example(), inputs(), []uint32{0, 1}, 2, found(4, cent(9000), option(1), yes), found(4, cent(10000), option(0), no))
}

// worths: a pack of a choice of so many options, each of which is worth an expression; cells 0 the choice, 1 an input of cents that may be blank, 2 the target.
func worths(l ...api.Expr) api.Pack {
	body := l[len(l)-1]
	for i := len(l) - 2; i >= 0; i-- {
		body = either(op(api.OpEq, line(0), choice(0, int64(i))), l[i], body)
	}
	return api.Pack{Name: "worths", Year: 2024, Options: []api.Options{optionsOf("ways", len(l))}, Lines: []api.Line{choosing("way", 0, -1), input("in", api.Cents, -1), computed("worth", api.Cents, -1, body)}}
}

// Expressions that are a blank, and faults, over inputs without cell 1.
func aBlank() api.Expr  { return line(1) }
func aNeeded() api.Expr { return op(api.OpNeg, line(1)) }
func anOver() api.Expr  { return op(api.OpAdd, cents(api.MaxCents), cents(1)) }
func aZero() api.Expr {
	return api.Expr{Op: api.OpSplit, Mode: api.Up, Args: []api.Expr{cents(1), count(0)}}
}

func TestP16_3WhatWins(t *testing.T) {
	one := []uint32{0}
	wins := func(what string, least, most api.Advice, l ...api.Expr) {
		t.Helper()
		advises(t, what, worths(l...), inputs(), one, 2, least, most)
	}
	wins("rising", found(3, cent(1), option(0)), found(3, cent(3), option(2)), cents(1), cents(2), cents(3))
	wins("falling", found(3, cent(1), option(2)), found(3, cent(3), option(0)), cents(3), cents(2), cents(1))
	wins("in the middle", found(4, cent(1), option(2)), found(4, cent(9), option(1)), cents(3), cents(9), cents(1), cents(5))
	wins("below nothing", found(3, cent(-3), option(1)), found(3, cent(-1), option(2)), cents(-2), cents(-3), cents(-1))
	wins("nothing is an amount", found(3, cent(-1), option(0)), found(3, cent(1), option(2)), cents(-1), cents(0), cents(1))
	wins("nothing is the least", found(2, cent(0), option(1)), found(2, cent(7), option(0)), cents(7), cents(0))
	wins("nothing is the most", found(2, cent(-7), option(0)), found(2, cent(0), option(1)), cents(-7), cents(0))
	wins("the bounds", found(3, cent(-api.MaxCents), option(2)), found(3, cent(api.MaxCents), option(1)), cents(0), cents(api.MaxCents), cents(-api.MaxCents))
	wins("equal ones", found(4, cent(5), option(0)), found(4, cent(5), option(0)), cents(5), cents(5), cents(5), cents(5))
	wins("equal ones among others", found(6, cent(1), option(1)), found(6, cent(5), option(2)), cents(3), cents(1), cents(5), cents(1), cents(5), cents(3))
}

// Blanks and faults never win, wherever they stand, whatever their numbers are.
func TestP16_3WhatNeverWins(t *testing.T) {
	one := []uint32{0}
	for _, bad := range []api.Expr{aBlank(), aNeeded(), anOver(), aZero()} {
		for at := range 4 {
			l := slices.Insert([]api.Expr{cents(5), cents(-5), cents(9)}, at, bad)
			least, most := option(1), option(2)
			if at <= 1 {
				least.Num++
			}
			if at <= 2 {
				most.Num++
			}
			advises(t, "one bad way", worths(l...), inputs(), one, 2, found(4, cent(-5), least), found(4, cent(9), most))
		}
		advises(t, "one good way, last", worths(bad, bad, cents(0)), inputs(), one, 2, found(3, cent(0), option(2)), found(3, cent(0), option(2)))
		advises(t, "one good way, first", worths(cents(-1), bad, bad), inputs(), one, 2, found(3, cent(-1), option(0)), found(3, cent(-1), option(0)))
		advises(t, "no good way", worths(bad, bad), inputs(), one, 2, none(2), none(2))
		advises(t, "no cells", worths(bad, bad), inputs(at(0, option(1))), nil, 2, none(1), none(1))
	}
	advises(t, "all bad ones", worths(aBlank(), aNeeded(), anOver(), aZero()), inputs(), one, 2, none(4), none(4))
	gives(t, "all bad ones", all(worths(aBlank(), aNeeded(), anOver(), aZero()), inputs(), one, 2),
		way{[]api.Value{option(0)}, blank}, way{[]api.Value{option(1)}, needed}, way{[]api.Value{option(2)}, over}, way{[]api.Value{option(3)}, zero})
	advises(t, "a good one for another input", worths(aBlank(), aNeeded()), inputs(at(1, cent(4))), one, 2, found(2, cent(-4), option(1)), found(2, cent(4), option(0)))
}

// Targets that are inputs, and rows that aren't used.
func TestP16_3Targets(t *testing.T) {
	p := allKinds()
	cells := []uint32{4, 2}
	advises(t, "a blank input", p, inputs(), cells, 0, none(6), none(6))
	advises(t, "an input", p, inputs(at(0, cent(-8))), cells, 0, found(6, cent(-8), option(0), no), found(6, cent(-8), option(0), no))
	advises(t, "a row that isn't used", p, inputs(), cells, 20, none(6), none(6))
	advises(t, "an input of a row that isn't used", p, inputs(), cells, 5, none(6), none(6))
	advises(t, "a row that is used", p, inputs(at(30, yes), at(5, cent(8))), cells, 20, found(6, cent(8), option(0), no), found(6, cent(8), option(0), no))
	advises(t, "no cells", p, inputs(at(0, cent(3))), []uint32{}, 15, found(1, cent(3)), found(1, cent(3)))
}

// Picks stand in the order of cells, not in that of their numbers.
func TestP16_3PicksByCells(t *testing.T) {
	p := weighed(1, -10, 100) // cells 0, 2 and 4, the sum in 5
	advises(t, "as they are", p, inputs(), []uint32{0, 2, 4}, 5, found(8, cent(-10), no, yes, no), found(8, cent(101), yes, no, yes))
	advises(t, "turned", p, inputs(), []uint32{2, 4, 0}, 5, found(8, cent(-10), yes, no, no), found(8, cent(101), no, yes, yes))
	advises(t, "some", p, inputs(at(2, no)), []uint32{4, 0}, 5, found(4, cent(0), no, no), found(4, cent(101), yes, yes))
	advises(t, "a sum of fewer", p, inputs(), []uint32{4, 2, 0}, 1, found(8, cent(0), no, no, no), found(8, cent(1), no, no, yes))
}

// The order of cells changes which one of equals is told, never what it is worth.
func TestP16_5OrderOfCells(t *testing.T) {
	p := weighed(-5, -5, 5) // cells 0, 2 and 4, the sum in 5; of cells 0 and 2 one alone may be true
	p.Lines[3].Clauses[0].Body = either(line(2), cents(-5), line(1))
	p.Lines[5].Clauses[0].Body = line(3)
	advises(t, "0, 2", p, inputs(), []uint32{0, 2}, 5, found(4, cent(-5), no, yes), found(4, cent(0), no, no))
	advises(t, "2, 0", p, inputs(), []uint32{2, 0}, 5, found(4, cent(-5), no, yes), found(4, cent(0), no, no))
	advises(t, "0, 2, 4", p, inputs(), []uint32{0, 2, 4}, 5, found(8, cent(-5), no, yes, no), found(8, cent(0), no, no, no))
	advises(t, "4, 2, 0", p, inputs(), []uint32{4, 2, 0}, 5, found(8, cent(-5), no, no, yes), found(8, cent(0), no, no, no))
}

// Advice that was told is the caller's.
func TestP16_3AnswersAreApart(t *testing.T) {
	p := example()
	first, _ := advise.Best(p, inputs(), []uint32{0, 1}, 2, false)
	other, _ := advise.Best(p, inputs(), []uint32{0, 1}, 2, false)
	scribble(&other)
	_ = append(other.Picks, blank, blank)
	if want := found(4, cent(9000), option(1), yes); !sameAdvice(first, want) {
		t.Errorf("%+v, want %+v", first, want)
	}
	advises(t, "again", p, inputs(), []uint32{0, 1}, 2, found(4, cent(9000), option(1), yes), found(4, cent(10000), option(0), no))
}
