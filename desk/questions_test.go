package desk_test

import (
	"fmt"
	"slices"
	"testing"

	"levy/api"
)

func TestP20_5NoCommand(t *testing.T) {
	w := benchOf(t, simple)
	for _, kind := range []int{-1 << 63, -1, 0, 26, 27, 1<<63 - 1} {
		w.errs(fmt.Sprint("kind ", kind), api.Cmd{Kind: kind, Name: "main", List: []int{1}}, api.ErrDeskCmd)
	}
	w.all("crash")
	w.errs("down, no command", cmd(26), api.ErrDeskCmd)
	w.errs("down", cmd(api.CmdAll), api.ErrDeskDown)
}

func TestP20_7Query(t *testing.T) {
	w := benchOf(t, simple).all("set wage 15000.00;set filing single;add kid;set age 0 9")
	for _, x := range [][2]int{{-1, 0}, {5, 0}, {0, 1}, {0, -1}, {2, 3}, {3, -1}, {1 << 62, 1 << 62}} {
		w.errs(fmt.Sprint(x), ask(x[0], x[1]), api.ErrDeskLine)
	}
	w.is("an input", ask(0, 0), api.Reply{Val: cent(1500000)})
	w.is("an input of a row", ask(2, 0), api.Reply{Val: num(9)})
	w.is("a row that isn't used", ask(3, 2), api.Reply{Count: 1})
	w.is("tax", ask(4, 0), api.Reply{Val: cent(-40000), Count: 2})
	w.is("tax again", ask(4, 0), api.Reply{Val: cent(-40000)})
	w.is("credit, which tax had asked", ask(3, 0), api.Reply{Val: cent(200000)})
	w.is("all", cmd(api.CmdAll), api.Reply{Count: 2, Vals: []api.Value{ // credit 1, rich
		cent(1500000), option(0), num(9), blank, blank, cent(200000), blank, blank, cent(-40000), yes, no, no, no}})
	w.is("all again", cmd(api.CmdAll), api.Reply{Vals: []api.Value{
		cent(1500000), option(0), num(9), blank, blank, cent(200000), blank, blank, cent(-40000), yes, no, no, no}})
	w.all("set age 0 10")
	if r := w.Do(cmd(api.CmdAll)); r.Count != 1 { // credit 0 is what it was: tax isn't reckoned anew
		t.Errorf("%d evaluations", r.Count)
	}
}

func TestP20_8DiffNames(t *testing.T) {
	w := benchOf(t, simple).all("set wage 1.00;add kid;fork b;fork a;switch a;set wage 2.00;set age 0 7;set filing joint;drop kid 0;add kid;add kid")
	w.errs("none", named(api.CmdDiff, "c"), api.ErrBranchNone)
	w.errs("no name", named(api.CmdDiff, ""), api.ErrBranchNone)
	w.is("itself", named(api.CmdDiff, "a"), api.Reply{})
	// In the form's order: inputs of no group, then rows: the flag ahead of the row's inputs.
	w.all("set age 1 3")
	wage, filing := api.Change{Id: 0, Had: true, Has: true, Was: cent(200), Now: cent(100)}, api.Change{Id: 1, Had: true, Was: option(1)}
	flag, age := api.Change{Id: 10, Had: true, Was: yes}, api.Change{Id: 3, Had: true, Was: num(3)}
	w.is("main", named(api.CmdDiff, "main"), api.Reply{Changes: []api.Change{wage, filing, flag, age}})
	w.all("switch main")
	w.is("names", cmd(api.CmdNames), api.Reply{Names: []string{"a", "b", "main"}})
	back := []api.Change{{Id: 0, Had: true, Has: true, Was: cent(100), Now: cent(200)}, {Id: 1, Has: true, Now: option(1)}, {Id: 10, Has: true, Now: yes}, {Id: 3, Has: true, Now: num(3)}}
	w.is("the other way", named(api.CmdDiff, "a"), api.Reply{Changes: back})
}

func TestP20_9Explain(t *testing.T) {
	w := benchOf(t, simple).all("set wage 15000.00;set filing joint")
	for _, x := range [][2]int{{-1, 0}, {5, 0}, {0, 1}, {2, 3}, {3, -1}} {
		w.errs(fmt.Sprint(x), api.Cmd{Kind: api.CmdExplain, Line: x[0], Row: x[1]}, api.ErrDeskLine)
	}
	w.errs("an input", api.Cmd{Kind: api.CmdExplain}, api.ErrTraceCell)
	w.errs("an input of a row", api.Cmd{Kind: api.CmdExplain, Line: 2, Row: 1}, api.ErrTraceCell)
	want := api.Trace{Nodes: []api.Node{{Cell: 8, Val: cent(0), Clause: 1, Guards: []api.Value{yes}, Reads: []api.Read{{Cell: 1, Seen: option(1)}, {Cell: 0, Seen: cent(1500000)}}}}}
	w.is("tax", api.Cmd{Kind: api.CmdExplain, Line: 4}, api.Reply{Trace: want})
	w.is("explain had asked the memo", ask(4, 0), api.Reply{Val: cent(0)})
	unused := api.Trace{Nodes: []api.Node{{Cell: 7, Clause: -1, Reads: []api.Read{{Cell: 11, Seen: no}}}}}
	w.is("a row that isn't used", api.Cmd{Kind: api.CmdExplain, Line: 3, Row: 2}, api.Reply{Trace: unused})
}

func TestP20_9Audit(t *testing.T) {
	w := benchOf(t, simple).all("set filing single")
	w.is("blank", cmd(api.CmdAudit), api.Reply{Findings: []api.Finding{
		{Rule: api.RuleUnsure, Hard: true, Place: api.Place{Kind: api.PlaceCheck}, Val: needed, Text: "too much"},
		{Rule: api.RuleMissing, Hard: true, Place: api.Place{Kind: api.PlaceLine}, Text: "wage"},
		{Rule: api.RuleFault, Hard: true, Place: api.Place{Kind: api.PlaceLine, Index: 4}, Val: needed, Text: "tax"},
	}})
	w.is("audit had asked the memo", ask(4, 0), api.Reply{Val: needed})
	w.is("but for rows that aren't used", ask(3, 0), api.Reply{Count: 1})
	w.all("fork a;set wage 1000000.01")
	w.is("rich", cmd(api.CmdAudit), api.Reply{Findings: []api.Finding{{Rule: api.RuleCheck, Hard: true, Place: api.Place{Kind: api.PlaceCheck}, Val: yes, Text: "too much"}}})
	w.all("set wage 5.00")
	w.is("nothing", cmd(api.CmdAudit), api.Reply{})
	w.all("switch a")
	if r := w.Do(cmd(api.CmdAudit)); len(r.Findings) != 3 {
		t.Errorf("another branch: %v", r.Findings)
	}
}

func TestP20_10Advise(t *testing.T) {
	w := benchOf(t, simple).all("set wage 15000.00;query tax")
	for _, x := range []struct {
		what string
		c    api.Cmd
		want api.Errno
	}{
		{"no line", api.Cmd{List: []int{5}, Line: 4}, api.ErrDeskLine}, {"no line", api.Cmd{List: []int{1, -1}, Line: 4}, api.ErrDeskLine}, {"a line of a group", api.Cmd{List: []int{1, 2}, Line: 4}, api.ErrDeskLine}, {"no target", api.Cmd{List: []int{1}, Line: 9}, api.ErrDeskLine}, {"no row", api.Cmd{List: []int{1}, Line: 4, Row: 1}, api.ErrDeskLine}, {"no target, and a line that can't be chosen", api.Cmd{List: []int{0}, Line: 9}, api.ErrDeskLine},
		{"a line of cents", api.Cmd{List: []int{0}, Line: 4}, api.ErrAdviseCells}, {"twice", api.Cmd{List: []int{1, 1}, Line: 4}, api.ErrAdviseCells}, {"a computed line", api.Cmd{List: []int{4}, Line: 4}, api.ErrAdviseCells}, {"a target that is no cents", api.Cmd{List: []int{1}, Line: 1}, api.ErrAdviseTarget}, {"a line that can't be chosen, and such a target", api.Cmd{List: []int{0}, Line: 1}, api.ErrAdviseCells},
	} {
		x.c.Kind = api.CmdAdvise
		w.errs(x.what, x.c, x.want)
	}
	best := func(n int) api.Cmd { return api.Cmd{Kind: api.CmdAdvise, List: []int{1}, Line: 4, N: n} }
	least := api.Reply{Advice: api.Advice{Picks: []api.Value{option(1)}, Tried: 2, Ok: true, Val: cent(0)}}
	most := api.Reply{Advice: api.Advice{Picks: []api.Value{option(0)}, Tried: 2, Ok: true, Val: cent(160000)}}
	w.is("least", best(0), least)
	for _, n := range []int{1, 2, -1, 1 << 62} {
		w.is("most", best(n), most)
	}
	w.is("nothing is chosen", ask(1, 0), api.Reply{})
	w.is("and the memo is as it was", ask(4, 0), api.Reply{Val: needed})
	w.is("no cells", api.Cmd{Kind: api.CmdAdvise, Line: 4}, api.Reply{Advice: api.Advice{Tried: 1}})
	w.is("the target in a row that isn't used", api.Cmd{Kind: api.CmdAdvise, Line: 3, Row: 2}, api.Reply{Advice: api.Advice{Tried: 1}})
	w.all("set filing single")
	w.is("what is set counts for nothing", best(0), least)
	w.is("no cells", api.Cmd{Kind: api.CmdAdvise, Line: 4}, api.Reply{Advice: api.Advice{Tried: 1, Ok: true, Val: cent(160000)}})
}

// along: a curve of tax along wage.
func along(name string, from int64, step, n int) api.Cmd {
	return api.Cmd{Kind: api.CmdCurve, Name: name, List: []int{4, 0, n}, Val: val(7, from), N: step}
}

func TestP20_11Curve(t *testing.T) {
	w := benchOf(t, simple).all("set filing single;add kid;set age 0 99;set wage 3.00;query tax")
	for _, x := range []struct {
		name string
		want []api.Point
	}{
		{"raw", []api.Point{{X: 0, Y: 0}, {X: 100000, Y: 10000}, {X: 200000, Y: 20000}}},
		{"rate", []api.Point{{X: 100000, Y: float32(10000) / 100000}, {X: 200000, Y: float32(20000) / 200000}}},
		{"slope", []api.Point{{X: 0, Y: float32(10000) / 100000}, {X: 100000, Y: float32(10000) / 100000}}},
	} {
		w.is(x.name, along(x.name, 0, 100000, 3), api.Reply{Points: x.want})
	}
	w.is("below 0", along("raw", -100, 100, 2), api.Reply{Points: []api.Point{{X: -100}, {X: 0}}})
	w.is("the input itself", api.Cmd{Kind: api.CmdCurve, Name: "raw", List: []int{0, 0, 2}, N: 1, Val: cent(5)}, api.Reply{Points: []api.Point{{X: 5, Y: 5}, {X: 6, Y: 6}}})
	w.is("as far as can be", along("raw", api.MaxCents-1, 1, 2), api.Reply{Points: []api.Point{{X: api.MaxCents - 1, Y: 1249999986688}, {X: api.MaxCents, Y: 1249999986688}}})
	w.is("the wage is what it was", ask(0, 0), api.Reply{Val: cent(300)})
	w.is("and the memo too", ask(4, 0), api.Reply{Val: cent(30)})
	w.all("set age 0 9")
	w.is("a target in a row", api.Cmd{Kind: api.CmdCurve, Name: "raw", List: []int{3, 0, 1}, N: 1}, api.Reply{Points: []api.Point{{X: 0, Y: 200000}}})
	w.is("a target in a row that isn't used: points are left out", api.Cmd{Kind: api.CmdCurve, Name: "raw", List: []int{3, 1, 3}, N: 1}, api.Reply{})
	w.is("slope of none", api.Cmd{Kind: api.CmdCurve, Name: "slope", List: []int{3, 1, 3}, N: 1}, api.Reply{})
}

func TestP20_11CurveRefused(t *testing.T) {
	w := benchOf(t, kindsText)
	good := func() api.Cmd {
		return api.Cmd{Kind: api.CmdCurve, Name: "raw", Line: 0, List: []int{8, 0, 2}, N: 1}
	}
	w.is("taken", good(), api.Reply{})
	for _, x := range []struct {
		what string
		turn func(c *api.Cmd)
		want api.Errno
	}{
		{"no line", func(c *api.Cmd) { c.Line = 99 }, api.ErrDeskLine}, {"no row", func(c *api.Cmd) { c.Row = 1 }, api.ErrDeskLine}, {"no list", func(c *api.Cmd) { c.List = nil }, api.ErrDeskLine}, {"two numbers", func(c *api.Cmd) { c.List = c.List[:2] }, api.ErrDeskLine}, {"four numbers", func(c *api.Cmd) { c.List = append(c.List, 0) }, api.ErrDeskLine}, {"no target", func(c *api.Cmd) { c.List[0] = -1 }, api.ErrDeskLine}, {"no row of the target", func(c *api.Cmd) { c.List[1] = 1 }, api.ErrDeskLine},
		{"no target, ahead of no input", func(c *api.Cmd) { c.Line = 8; c.List[0] = 99 }, api.ErrDeskLine},
		{"a computed line", func(c *api.Cmd) { c.Line = 8 }, api.ErrDeskInput}, {"a count", func(c *api.Cmd) { c.Line = 1 }, api.ErrDeskInput}, {"a target of choices", func(c *api.Cmd) { c.List[0] = 10 }, api.ErrDeskInput}, {"a target of counts", func(c *api.Cmd) { c.List[0] = 1 }, api.ErrDeskInput}, {"a target of days", func(c *api.Cmd) { c.List[0] = 9 }, api.ErrDeskInput},
		{"no input, ahead of the row", func(c *api.Cmd) { c.Line = 6; c.Row = 1 }, api.ErrDeskInput}, {"a target of choices, ahead of the row", func(c *api.Cmd) { c.Line = 5; c.List[0] = 4 }, api.ErrDeskInput},
		{"a row that isn't used", func(c *api.Cmd) { c.Line = 5; c.Row = 2 }, api.ErrDeskRow}, {"the row, ahead of the name", func(c *api.Cmd) { c.Line = 5; c.Name = "" }, api.ErrDeskRow},
		{"no name", func(c *api.Cmd) { c.Name = "" }, api.ErrDeskCmd}, {"another name", func(c *api.Cmd) { c.Name = "Raw" }, api.ErrDeskCmd}, {"the name, ahead of the count", func(c *api.Cmd) { c.Name = "x"; c.List[2] = 0 }, api.ErrDeskCmd},
		{"no points", func(c *api.Cmd) { c.List[2] = 0 }, api.ErrCurveCount}, {"65 points", func(c *api.Cmd) { c.List[2] = 65 }, api.ErrCurveCount}, {"no points and no step", func(c *api.Cmd) { c.List[2] = 0; c.N = 0 }, api.ErrCurveCount},
		{"no step", func(c *api.Cmd) { c.N = 0 }, api.ErrCurveStep}, {"a step back", func(c *api.Cmd) { c.N = -1; c.Name = "slope" }, api.ErrCurveStep}, {"too far", func(c *api.Cmd) { c.Val.Num = api.MaxCents }, api.ErrCurveStep}, {"too low", func(c *api.Cmd) { c.Val.Num = -api.MaxCents - 1; c.Name = "rate" }, api.ErrCurveStep}, {"a great step", func(c *api.Cmd) { c.N = 1<<63 - 1 }, api.ErrCurveStep},
	} {
		c := good()
		x.turn(&c)
		w.errs(x.what, c, x.want)
	}
	w.all("add kid;add kid;set kf 1 yes")
	w.is("an input of a row, a target of it", api.Cmd{Kind: api.CmdCurve, Name: "raw", Line: 5, Row: 1, List: []int{11, 1, 1}, N: 1, Val: cent(9)}, api.Reply{Points: []api.Point{{X: 9, Y: 9}}})
}

func TestP20_11Sheet(t *testing.T) {
	w := benchOf(t, simple).all("set wage 15000.00;set filing single;add kid")
	r := w.Do(cmd(api.CmdSheet))
	if r.Err != api.OK || len(r.Pages) != 1 || r.Count != 0 || !sameReply(r, api.Reply{Pages: r.Pages}) {
		t.Errorf("%s", brief(r))
	}
	want := []string{"> wage ........................................................ 15000.00", "> filing ....................................................... :single", "  tax .......................................................... #needed", "[kid] 1 of 3"}
	for i, s := range want {
		if got := r.Pages[0][73*(2+i):][:len(s)]; got != s {
			t.Errorf("place %d: %q, want %q", i, got, s)
		}
	}
	w.is("sheet had asked for all", ask(3, 2), api.Reply{})
	w.is("sheet had asked for all", ask(4, 0), api.Reply{Val: needed})
}

// Questions change nothing that a later reply shows, Count apart: a desk that is asked between is like one that isn't.
func TestP20_7QuestionsChangeNothing(t *testing.T) {
	eachPair(t, 207, 30, 10, false, func(p *pair, d *director) {
		other := newPair(t, put(t, d.pack))
		for range 60 {
			c := d.changing()
			p.do(c)
			other.do(c)
			for range 5 {
				d.noted(p.do(d.asking()))
			}
			if !sameFiles(p.desk.Files(), other.desk.Files()) {
				t.Fatal("a question has changed the disk")
			}
		}
		if !slices.Equal(p.do(cmd(api.CmdAll)).Vals, other.do(cmd(api.CmdAll)).Vals) || p.model.book.state() != other.model.book.state() {
			t.Error("a question has changed the return")
		}
	})
}

// P21.5: no cell twice, none that needn't be, each that must; the same again: none. Held cell by cell against the rule: a memo that is set one by one (model.load).
func TestP21_5Work(t *testing.T) {
	eachPair(t, 2105, 60, 14, false, func(p *pair, d *director) {
		for range 80 {
			p.do(d.changing())
			line, row := d.place(anyLine)
			first := p.do(ask(line, row))
			if again := p.do(ask(line, row)); again.Count != 0 || again.Val != first.Val {
				t.Fatalf("asked again: %d evaluations", again.Count)
			}
			if l := d.pack.Lines; line >= 0 && line < len(l) && l[line].Input && first.Count != 0 {
				t.Fatalf("an input: %d evaluations", first.Count)
			}
			if d.Intn(4) == 0 {
				p.do(cmd(api.CmdAll))
				for _, c := range []api.Cmd{cmd(api.CmdAll), ask(line, row)} {
					if r := p.do(c); r.Count != 0 {
						t.Fatalf("all asked again: %d evaluations", r.Count)
					}
				}
			}
		}
	})
}
