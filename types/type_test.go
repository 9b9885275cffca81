package types_test

import (
	"math"
	"math/rand"
	"slices"
	"testing"

	"levy/api"
	"levy/types"
)

// asModel holds Type against the model, and tells whether it takes the expression.
func asModel(t *testing.T, p api.Pack, group int, e api.Expr) bool {
	t.Helper()
	want := modelType(p, group, e)
	if want.errno == api.OK {
		is(t, p, group, e, want.kind, want.options)
	} else {
		isNot(t, p, group, e, want.errno, want.path...)
	}
	return want.errno == api.OK
}

func TestP6_9Examples(t *testing.T) {
	p := api.Pack{Lines: []api.Line{input("income", api.Cents, -1, -1), input("rate", api.Count, -1, -1)}}
	isNot(t, p, -1, op(api.OpAdd, line(0), line(1)), api.ErrTypeKind, 1)
	isNot(t, p, -1, scale(line(0), 1, 0, 1), api.ErrTypeOp)
	isNot(t, p, -1, op(api.OpNot, op(api.OpIsBlank, cents(5))), api.ErrTypeOp, 0)
	isNot(t, p, -1, op(api.OpAdd, line(0), op(api.OpNeg, line(9))), api.ErrTypeRef, 1, 0)
	isNot(t, p, -1, repeat(api.OpNot, 9, flag(1)), api.ErrTypeSize, 0, 0, 0, 0, 0, 0, 0, 0)
	p = sample()
	isNot(t, p, -1, line(kidC), api.ErrTypeRef)
	is(t, p, -1, of(api.OpSum, kidC), api.Cents, -1)
	checks(t, "a pack without lines", api.Pack{Name: "p", Year: 2000}, spot(5, 0, -1), api.ErrTypeSize)
	checks(t, "a line A", api.Pack{Name: "p", Year: 2000, Lines: []api.Line{input("A", api.Cents, -1, -1)}}, spot(5, 0, -1), api.ErrTypeName)
	p.Lines[lineTax].Clauses[0].Body = line(kidC)
	checks(t, "a line of no group that names one of a group", p, spot(5, lineTax, 0, 1), api.ErrTypeRef)
	p.Lines[lineTax].Clauses[0].Body = of(api.OpSum, kidC)
	wellFormed(t, "a line of no group that sums one of a group", p)
}

// proper: the expression of an operator whose numbers are as they must be; of those that name something it names kid's number 0.
func proper(o int, args ...api.Expr) api.Expr {
	e := op(o, args...)
	switch o {
	case api.OpScale:
		e.Num, e.Den, e.Mode = -3, 4, 5
	case api.OpSplit:
		e.Mode = 1
	case api.OpRound:
		e.Num, e.Mode = 100, 3
	case api.OpSum, api.OpLeast, api.OpGreatest:
		e.Num = kidC
	case api.OpAny, api.OpAll:
		e.Num = kidF
	}
	return e
}

// ofKinds goes through all lists of some kinds of a length, as lists of lines of sample.
func ofKinds(n int, does func([]api.Expr)) {
	l := make([]api.Expr, n)
	var set func(at int)
	set = func(at int) {
		if at == n {
			does(slices.Clone(l))
			return
		}
		for i := range 6 {
			l[at] = line(int64(i))
			set(at + 1)
		}
	}
	set(0)
}

func TestP6_9EveryOperatorOfEveryKinds(t *testing.T) {
	p := sample()
	taken := map[int]int{}
	for o := -1; o <= 43; o++ {
		for n := range 4 {
			ofKinds(n, func(l []api.Expr) {
				if asModel(t, p, -1, proper(o, l...)) {
					taken[o]++
				}
			})
		}
	}
	// By hand: how many lists of at most three arguments of six kinds the chapter's table takes.
	want := map[int]int{
		api.OpAdd: 4, api.OpMin: 4, api.OpMax: 4, api.OpSub: 2, api.OpNeg: 2, api.OpAbs: 2, api.OpClamp: 2,
		api.OpScale: 1, api.OpTimes: 1, api.OpSplit: 1, api.OpRound: 1, api.OpBracket: 1,
		api.OpEq: 6, api.OpNe: 6, api.OpLt: 3, api.OpLe: 3, api.OpGt: 3, api.OpGe: 3,
		api.OpAnd: 2, api.OpOr: 2, api.OpNot: 1, api.OpIf: 6, api.OpIsBlank: 6, api.OpElse: 6,
		api.OpYear: 1, api.OpAge: 1, api.OpMonths: 1, api.OpDays: 1, api.OpAddMonths: 1,
	}
	for o := -1; o <= 43; o++ {
		n := want[o]
		if o >= api.OpCents && o <= api.OpAll {
			n = 1
		}
		if taken[o] != n {
			t.Errorf("operator %d: %d lists of kinds were taken, want %d", o, taken[o], n)
		}
	}
}

func TestP6_9LongLists(t *testing.T) {
	p := sample()
	for o := api.OpCents; o <= api.OpDays; o++ {
		for n := range 9 {
			for same := range int64(6) {
				for odd := range int64(6) {
					for at := range max(n, 1) {
						l := slices.Repeat([]api.Expr{line(same)}, n)
						if n > 0 {
							l[at] = line(odd)
						}
						asModel(t, p, -1, proper(o, l...))
					}
				}
			}
		}
	}
	six := slices.Repeat([]api.Expr{line(lineC)}, 6)
	is(t, p, -1, op(api.OpAdd, six...), api.Cents, -1)
	isNot(t, p, -1, op(api.OpAdd, append(six, line(lineC))...), api.ErrTypeOp)
	isNot(t, p, -1, op(api.OpMax, line(lineN), line(lineN), line(lineC), line(lineF)), api.ErrTypeKind, 2)
	isNot(t, p, -1, op(api.OpMin, line(lineD), line(lineD)), api.ErrTypeKind, 0)
	isNot(t, p, -1, op(api.OpOr, line(lineF), line(lineF), line(lineF), line(lineN)), api.ErrTypeKind, 3)
}

func TestP6_9Numbers(t *testing.T) {
	p := sample()
	nums := []int64{math.MinInt64, math.MaxInt64, 0, 1, 2, -1}
	for _, n := range []int64{api.MaxCents, api.MaxCount, api.MaxRatio, api.MaxDay} {
		nums = append(nums, n-1, n, n+1, -n-1, -n, -n+1)
	}
	args := [][]api.Expr{nil, {line(lineC)}, {line(lineC), line(lineN)}, {line(lineC), line(lineC)}, {line(lineF), line(lineF)}, {line(lineF)}, {line(lineD)}, {line(lineD), line(lineD)}, {line(lineD), line(lineN)}, {line(lineF), line(lineC), line(lineC)}, {line(lineC), line(lineC), line(lineC)}}
	for o := api.OpCents; o <= api.OpDays; o++ {
		for _, l := range args {
			for _, mode := range []int{math.MinInt, -1, 0, 1, 2, 3, 4, 5, 6, math.MaxInt} {
				for _, den := range []int64{0, 1} {
					for _, num := range nums {
						asModel(t, p, 0, api.Expr{Op: o, Num: num, Den: den, Mode: mode, Args: l})
					}
				}
			}
			for _, den := range nums {
				for _, mode := range []int{0, 1} {
					for _, num := range []int64{0, 1} {
						asModel(t, p, 0, api.Expr{Op: o, Num: num, Den: den, Mode: mode, Args: l})
					}
				}
			}
		}
	}
	for _, o := range []int{math.MinInt, -1, 0, 42, 43, 1000, math.MaxInt} {
		isNot(t, p, -1, op(o), api.ErrTypeOp)
		isNot(t, p, -1, op(api.OpNeg, op(o)), api.ErrTypeOp, 0)
	}
}

func TestP6_9References(t *testing.T) {
	p := sample()
	p.Lines = append(p.Lines, api.Line{Type: api.Blank, Group: -1}, api.Line{Type: api.Fault, Group: 0}, api.Line{Type: -1, Group: 0}, api.Line{Type: api.Cents, Group: 7}, api.Line{Type: api.Count, Group: -7},
		api.Line{Type: api.Choice, Options: 9, Group: -1}, api.Line{Type: api.Choice, Options: -1, Group: -1}, api.Line{Type: api.Cents, Options: 3, Group: -1}, api.Line{Type: api.Flag, Options: 3, Group: 1})
	numbers := []int64{math.MinInt64, -1 << 32, 1 << 32, math.MaxInt64}
	for n := range int64(40) {
		numbers = append(numbers, n-4)
	}
	for _, group := range []int{-8, -7, -1, 0, 1, 2, 7, math.MaxInt, math.MinInt} {
		for _, n := range numbers {
			for _, o := range []int{api.OpLine, api.OpSum, api.OpLeast, api.OpGreatest, api.OpAny, api.OpAll, api.OpUsed} {
				asModel(t, p, group, of(o, n))
			}
			asModel(t, p, group, of(api.OpBracket, n, line(lineC)))
			asModel(t, p, group, of(api.OpBracket, n, line(lineN)))
			asModel(t, p, group, of(api.OpBracket, n, line(99)))
			asModel(t, p, group, op(api.OpIsBlank, line(n)))
			for _, table := range numbers {
				asModel(t, p, group, choice(table, n))
			}
		}
	}
	is(t, p, -1, line(21), api.Choice, 9)
	is(t, p, -1, line(22), api.Choice, -1)
	is(t, p, -1, line(23), api.Cents, -1)
	is(t, p, -1, of(api.OpAny, 24), api.Flag, -1)
	is(t, p, -1, op(api.OpEq, line(21), line(21)), api.Flag, -1)
	isNot(t, p, -1, op(api.OpEq, line(21), line(22)), api.ErrTypeKind, 1)
	is(t, p, -1, op(api.OpEq, line(23), line(lineC)), api.Flag, -1)
	is(t, p, 7, line(19), api.Cents, -1)
	is(t, p, -1, of(api.OpSum, 19), api.Cents, -1)
	is(t, p, 0, of(api.OpSum, kidN), api.Count, -1)
	isNot(t, p, -1, line(16), api.ErrTypeRef)
	isNot(t, p, 0, of(api.OpAny, 17), api.ErrTypeRef)
	isNot(t, p, 0, line(slipC), api.ErrTypeRef)
	is(t, p, 1, line(slipC), api.Cents, -1)
	is(t, p, 1, line(lineS), api.Choice, 1)
	isNot(t, p, 1, choice(1, 2), api.ErrTypeRef)
	is(t, p, 1, choice(0, 2), api.Choice, 0)
	isNot(t, p, -1, of(api.OpSum, lineC), api.ErrTypeRef)
	isNot(t, p, -1, of(api.OpSum, kidD), api.ErrTypeKind)
	isNot(t, p, -1, of(api.OpLeast, kidF), api.ErrTypeKind)
	isNot(t, p, -1, of(api.OpGreatest, kidO), api.ErrTypeKind)
	isNot(t, p, -1, of(api.OpAll, kidN), api.ErrTypeKind)
	isNot(t, p, -1, op(api.OpNot, of(api.OpAny, kidC)), api.ErrTypeKind, 0)
	isNot(t, p, -1, of(api.OpUsed, 2), api.ErrTypeRef)
	isNot(t, p, -1, of(api.OpBracket, 2, line(99)), api.ErrTypeRef)
	isNot(t, p, -1, of(api.OpBracket, 1, line(99)), api.ErrTypeRef, 0)
}

func TestP6_9Deep(t *testing.T) {
	p := sample()
	for n := range 12 {
		e := repeat(api.OpNot, n, line(lineF))
		if n < 8 {
			is(t, p, -1, e, api.Flag, -1)
		} else {
			isNot(t, p, -1, e, api.ErrTypeSize, slices.Repeat([]int{0}, 8)...)
		}
		isNot(t, p, -1, op(api.OpAnd, line(lineF), e, cents(1)), map[bool]api.Errno{true: api.ErrTypeKind, false: api.ErrTypeSize}[n < 7],
			map[bool][]int{true: {2}, false: append([]int{1}, slices.Repeat([]int{0}, 7)...)}[n < 7]...)
	}
	is(t, p, -1, repeat(api.OpNot, 6, op(api.OpIsBlank, line(lineF))), api.Flag, -1)
	isNot(t, p, -1, repeat(api.OpNot, 7, op(api.OpIsBlank, line(lineF))), api.ErrTypeSize, slices.Repeat([]int{0}, 8)...)
	isNot(t, p, -1, repeat(api.OpNot, 7, op(api.OpIsBlank, flag(1))), api.ErrTypeOp, slices.Repeat([]int{0}, 7)...)
	isNot(t, p, -1, repeat(api.OpNot, 8, op(99)), api.ErrTypeSize, slices.Repeat([]int{0}, 8)...)
	isNot(t, p, -1, repeat(api.OpNot, 7, op(99)), api.ErrTypeOp, slices.Repeat([]int{0}, 7)...)
}

// pathOf: the path of the node of that number, from 1 on, as they are met.
func pathOf(e api.Expr, n *int) ([]int, bool) {
	*n--
	if *n == 0 {
		return nil, true
	}
	for i, a := range e.Args {
		if path, ok := pathOf(a, n); ok {
			return append([]int{i}, path...), true
		}
	}
	return nil, false
}

func TestP6_9ManyNodes(t *testing.T) {
	p := sample()
	is(t, p, -1, sums(60), api.Cents, -1)
	for n := 61; n < 200; n++ {
		at := 61
		path, ok := pathOf(sums(n), &at)
		if !ok {
			t.Fatal("no node 61")
		}
		isNot(t, p, -1, sums(n), api.ErrTypeSize, path...)
		last := sums(n)
		x := &last
		for len(x.Args) > 0 {
			x = &x.Args[len(x.Args)-1]
		}
		*x = line(99)
		if n > 61 {
			isNot(t, p, -1, last, api.ErrTypeSize, path...)
		}
		*x = api.Expr{}
		isNot(t, p, -1, last, api.ErrTypeSize, path...)
	}
	e := sums(60)
	e.Args[5] = line(lineN)
	isNot(t, p, -1, e, api.ErrTypeKind, 5)
	is(t, p, -1, op(api.OpAdd, sums(29), sums(29), line(lineC)), api.Cents, -1)
	isNot(t, p, -1, op(api.OpAdd, sums(29), sums(29), line(lineC), line(99)), api.ErrTypeSize, 3)
	isNot(t, p, -1, op(api.OpAdd, sums(29), sums(29), line(99), line(lineC)), api.ErrTypeRef, 2)
}

// The order of P6.9: at a node first what it is, then what it names, then its arguments' faults, then kinds.
func TestP6_9Order(t *testing.T) {
	p := sample()
	isNot(t, p, -1, op(api.OpAdd, flag(1), line(99)), api.ErrTypeRef, 1)
	isNot(t, p, -1, op(api.OpAdd, flag(1), cents(1<<60)), api.ErrTypeOp, 1)
	isNot(t, p, -1, op(api.OpAdd, op(api.OpNot, cents(1)), line(99)), api.ErrTypeKind, 0, 0)
	isNot(t, p, -1, op(api.OpAdd, line(99), op(api.OpNot, cents(1))), api.ErrTypeRef, 0)
	isNot(t, p, -1, api.Expr{Op: api.OpBracket, Num: 9, Den: 1, Args: []api.Expr{line(99)}}, api.ErrTypeOp)
	isNot(t, p, -1, api.Expr{Op: api.OpSum, Num: 99, Args: []api.Expr{line(99)}}, api.ErrTypeOp)
	isNot(t, p, -1, op(api.OpIf, cents(1), cents(1), count(1)), api.ErrTypeKind, 0)
	isNot(t, p, -1, op(api.OpIf, flag(1), cents(1), count(1)), api.ErrTypeKind, 2)
	isNot(t, p, -1, op(api.OpIf, flag(1), choice(0, 0), choice(1, 0)), api.ErrTypeKind, 2)
	is(t, p, -1, op(api.OpIf, flag(1), choice(1, 0), line(lineS)), api.Choice, 1)
	is(t, p, -1, op(api.OpElse, line(lineS), choice(1, 1)), api.Choice, 1)
	isNot(t, p, -1, op(api.OpTimes, count(1), cents(1)), api.ErrTypeKind, 0)
	isNot(t, p, -1, op(api.OpTimes, cents(1), cents(1)), api.ErrTypeKind, 1)
	isNot(t, p, -1, op(api.OpLt, flag(1), flag(1)), api.ErrTypeKind, 0)
	isNot(t, p, -1, op(api.OpLt, day(1), count(1)), api.ErrTypeKind, 1)
	isNot(t, p, -1, op(api.OpAddMonths, count(1), day(1)), api.ErrTypeKind, 0)
	isNot(t, p, -1, op(api.OpDays, day(1), count(1)), api.ErrTypeKind, 1)
}

func TestP6_9ByChance(t *testing.T) {
	r := rand.New(rand.NewSource(69))
	errors := map[api.Errno]int{}
	p := sample()
	all := makers(r, p)
	for range 40000 {
		m := pick(r, all...)
		e := m.expr(pick(r, kinds...), 2+r.Intn(6))
		for range r.Intn(4) {
			m.spoil(&e)
		}
		asModel(t, p, m.group, e)
		errors[modelType(p, m.group, e).errno]++
	}
	for _, errno := range []api.Errno{api.OK, api.ErrTypeSize, api.ErrTypeOp, api.ErrTypeRef, api.ErrTypeKind} {
		if errors[errno] < 500 {
			t.Errorf("error %d was met %d times", errno, errors[errno])
		}
	}
}

func TestP6_1ByChance(t *testing.T) {
	r := rand.New(rand.NewSource(61))
	errors := map[api.Errno]int{}
	for range 10000 {
		p := madePack(r)
		for range r.Intn(4) {
			bendSome(r, &p)
		}
		want, errno := modelCheck(p)
		checks(t, "a pack by chance", p, want, errno)
		errors[errno]++
		if t.Failed() {
			t.Fatalf("%+v", p)
		}
	}
	for errno := api.ErrTypeSize; errno <= api.ErrTypeKind; errno++ {
		if errors[errno] < 100 {
			t.Errorf("error %d was met %d times", errno, errors[errno])
		}
	}
	if errors[api.OK] < 1000 {
		t.Errorf("%d packs were well formed", errors[api.OK])
	}
}

func TestP6_13ArgumentsAreTaken(t *testing.T) {
	r := rand.New(rand.NewSource(613))
	p := sample()
	var each func(group int, e api.Expr) bool
	each = func(group int, e api.Expr) bool {
		_, _, _, errno := types.Type(p, group, e)
		return errno == api.OK && !slices.ContainsFunc(e.Args, func(a api.Expr) bool { return !each(group, a) })
	}
	taken := 0
	all := makers(r, p)
	for range 20000 {
		m := pick(r, all...)
		e := m.expr(pick(r, kinds...), 2+r.Intn(6))
		for range r.Intn(2) {
			m.spoil(&e)
		}
		if _, _, _, errno := types.Type(p, m.group, e); errno == api.OK {
			taken++
			if !each(m.group, e) {
				t.Errorf("Type takes %+v, but not all its arguments", e)
			}
		}
	}
	if taken < 5000 {
		t.Errorf("only %d expressions were taken", taken)
	}
}

func TestP6_13NothingElseCounts(t *testing.T) {
	r := rand.New(rand.NewSource(613))
	p, q := sample(), sample()
	q.Name, q.Year, q.Checks = "", -5, nil
	for i := range q.Lines {
		q.Lines[i].Name, q.Lines[i].Clauses, q.Lines[i].Input, q.Lines[i].Must = "same", []api.Clause{{Body: api.Expr{Op: 99}}}, i%2 == 0, i%3 == 0
	}
	for i, o := range q.Options {
		q.Options[i] = api.Options{Name: "", Names: make([]string, len(o.Names))}
	}
	for i := range q.Tables {
		q.Tables[i] = api.Table{}
	}
	for i := range q.Groups {
		q.Groups[i] = api.Group{Rows: -9}
	}
	all := makers(r, p)
	for range 20000 {
		m := pick(r, all...)
		e := m.expr(pick(r, kinds...), 2+r.Intn(6))
		for range r.Intn(3) {
			m.spoil(&e)
		}
		k, o, path, errno := types.Type(p, m.group, e)
		if k2, o2, path2, errno2 := types.Type(q, m.group, e); k != k2 || o != o2 || errno != errno2 || !slices.Equal(path, path2) {
			t.Fatalf("names, bodies or checks count: %+v", e)
		}
	}
}
