package pack_test

import (
	"math"
	"math/rand"

	"levy/api"
)

// Packs by chance: any numbers, any texts, lists of any length. Whether they are well formed isn't asked here.

func pick[T any](r *rand.Rand, l ...T) T { return l[r.Intn(len(l))] }

func anyNumber(r *rand.Rand) int64 {
	if r.Intn(2) == 0 {
		return int64(r.Intn(5) - 2)
	}
	if r.Intn(2) == 0 {
		return int64(r.Uint64()) >> r.Intn(64)
	}
	return pick[int64](r, math.MinInt64, math.MinInt64+1, -65, -64, 63, 64, 8191, 8192, math.MaxInt64-1, math.MaxInt64)
}

func anyText(r *rand.Rand) string {
	b := make([]byte, pick(r, 0, 1, 2, 5, r.Intn(130)))
	r.Read(b)
	return string(b)
}

// some: a list of up to most items.
func some[T any](r *rand.Rand, most int, item func(*rand.Rand) T) []T {
	var l []T
	for range r.Intn(most + 1) {
		l = append(l, item(r))
	}
	return l
}

func madeExpr(r *rand.Rand, deep int) api.Expr {
	e := api.Expr{Op: int(anyNumber(r))}
	if r.Intn(2) == 0 {
		e.Num = anyNumber(r)
	}
	if r.Intn(3) == 0 {
		e.Den = anyNumber(r)
	}
	if r.Intn(3) == 0 {
		e.Mode = int(anyNumber(r))
	}
	if deep > 1 {
		e.Args = some(r, 3, func(r *rand.Rand) api.Expr { return madeExpr(r, deep-1) })
	}
	return e
}

func madeClause(r *rand.Rand) api.Clause {
	return api.Clause{Priority: int(anyNumber(r)), Guarded: r.Intn(2) == 0, Guard: madeExpr(r, 1+r.Intn(3)), Body: madeExpr(r, 1+r.Intn(3))}
}

func madeLine(r *rand.Rand) api.Line {
	return api.Line{Name: anyText(r), Input: r.Intn(2) == 0, Must: r.Intn(2) == 0, Type: int(anyNumber(r)), Options: int(anyNumber(r)), Group: int(anyNumber(r)), Clauses: some(r, 3, madeClause)}
}

func madeCheck(r *rand.Rand) api.Check {
	return api.Check{Name: anyText(r), Hard: r.Intn(2) == 0, Group: int(anyNumber(r)), When: madeExpr(r, 1+r.Intn(4)), Text: anyText(r)}
}

func madeBand(r *rand.Rand) api.Band { return api.Band{From: anyNumber(r), Rate: anyNumber(r)} }

func madeTable(r *rand.Rand) api.Table {
	return api.Table{Name: anyText(r), Bands: some(r, 3, madeBand)}
}

func madeOptions(r *rand.Rand) api.Options {
	return api.Options{Name: anyText(r), Names: some(r, 3, anyText)}
}

func madeGroup(r *rand.Rand) api.Group { return api.Group{Name: anyText(r), Rows: int(anyNumber(r))} }

func madePack(r *rand.Rand) api.Pack {
	return api.Pack{
		Name: anyText(r), Year: int(anyNumber(r)), Options: some(r, 3, madeOptions), Tables: some(r, 3, madeTable), Groups: some(r, 3, madeGroup),
		Lines: some(r, 3, madeLine), Checks: some(r, 3, madeCheck),
	}
}
