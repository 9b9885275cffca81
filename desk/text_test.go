package desk_test

import (
	"errors"
	"fmt"
	"slices"
	"strings"
	"testing"

	"levy/api"
	"levy/curve"
	"levy/desk"
	"levy/pack"
	"levy/rules"
	"levy/trace"
	"levy/words"
)

func TestP20_14Compile(t *testing.T) {
	for _, text := range []string{simple, kindsText} {
		p, err := rules.Parse(text)
		if b := compiled(t, text); err != nil || !slices.Equal(b, put(t, p)) {
			t.Error("other bytes than the pack's")
		}
	}
	long := "pack a 2024\n" + strings.Repeat("#", api.MaxRuleText)
	for _, x := range []struct {
		what, text string
		line, at   int
		want       api.Errno
	}{
		{"nothing", "", 1, 0, api.ErrRulesEnd}, {"too long", long, 1, 0, api.ErrWordsLong}, {"no word", "pack a 2024\n  ?", 2, 2, api.ErrWordsByte}, {"an unknown name", "pack a 2024\nline x cents\n  is z\n", 3, 5, api.ErrRulesName}, {"an unknown name, ahead of no type", "pack a 2024\nline x cents\ncheck y \"\"\n  when z\n", 4, 7, api.ErrRulesName},
		{"no clause", "pack a 2024\nline x cents\n", 0, 0, api.ErrTypeLine}, {"no line", "pack a 2024\n", 0, 0, api.ErrTypeSize}, {"a year", "pack a 1899\ninput x cents\n", 0, 0, api.ErrTypeSize}, {"another kind", "pack a 2024\nline x cents\n  is 5\n", 0, 0, api.ErrTypeKind},
		{"a cycle", "pack a 2024\nline x cents\n  is y\nline y cents\n  is x\n", 0, 0, api.ErrGraphCycle}, {"a cycle, and another kind", "pack a 2024\nline x cents\n  is x\nline y cents\n  is 5\n", 0, 0, api.ErrTypeKind},
	} {
		b, err := desk.Compile(x.text)
		var m *api.Misread
		if len(b) != 0 || !errors.As(err, &m) || error(m) != err || m.Err != error(x.want) || m.Line != x.line || m.At != x.at {
			t.Errorf("%s: %d bytes, %v", x.what, len(b), err)
		}
		if s, err := desk.Play(x.text, "all"); s != "" || err == nil || err.Error() != m.Error() || !errors.Is(err, x.want) {
			t.Errorf("%s: Play: %q, %v", x.what, s, err)
		}
	}
}

// kindsPack: the pack of the text kinds.
func kindsPack(t *testing.T) api.Pack {
	t.Helper()
	return packOf(t, compiled(t, kindsText))
}

// readAs asks for the commands that lines are read as, whatever blanks and remarks stand around them.
func readAs(t *testing.T, lines map[string]api.Cmd) {
	t.Helper()
	p := kindsPack(t)
	for text, want := range lines {
		for _, s := range []string{text, "\t " + text + "  ", text + "\n", "\n\n" + text + "# so\n\n", strings.ReplaceAll(text, " ", "   ")} {
			got, err := desk.Parse(p, s)
			if err != nil || !sameOf(got, want) {
				t.Errorf("%q: %+v, %v, want %+v", s, got, err, want)
			}
		}
	}
}

func TestP20_15PlacesAndValues(t *testing.T) {
	readAs(t, map[string]api.Cmd{
		"set c 1.05": setTo(0, 0, cent(105)), "set c -1.05": setTo(0, 0, cent(-105)), "set c - 0.00": setTo(0, 0, cent(0)), "set n 7": setTo(1, 0, num(7)), "set n -7": setTo(1, 0, num(-7)),
		"set f yes": setTo(2, 0, yes), "set f no": setTo(2, 0, no), "set d 2000-02-29": setTo(3, 0, date(36583)), "set o huge": setTo(4, 0, option(2)),
		"set kc 2 0.01": setTo(5, 2, cent(1)), "set kc 1000000000 0.01": setTo(5, 1000000000, cent(1)), "set ko 0 joint": setTo(7, 0, option(1)), "set sum 1.00": setTo(8, 0, cent(100)), "set c 99999999999.99": setTo(0, 0, cent(api.MaxCents)),
	})
}

func TestP20_16Lines(t *testing.T) {
	l := func(n ...int) []int { return n }
	readAs(t, map[string]api.Cmd{
		"clear c": group(api.CmdClear, 0, 0), "clear kf 9": group(api.CmdClear, 6, 9), "add kid": group(api.CmdAdd, 0, 0), "add slip": group(api.CmdAdd, 1, 0), "drop slip 7": group(api.CmdDrop, 1, 7),
		"undo": cmd(api.CmdUndo), "redo": cmd(api.CmdRedo), "forget 0": counted(api.CmdForget, 0), "forget 12": counted(api.CmdForget, 12),
		"fork what": named(api.CmdFork, "what"), "switch in": named(api.CmdSwitch, "in"), "delete main": named(api.CmdDelete, "main"), "merge a_b": named(api.CmdMerge, "a_b"), "diff set": named(api.CmdDiff, "set"),
		"query bad": group(api.CmdQuery, 12, 0), "query kx 2": group(api.CmdQuery, 11, 2), "explain kx 0": group(api.CmdExplain, 11, 0), "explain c": group(api.CmdExplain, 0, 0),
		"all": cmd(api.CmdAll), "audit": cmd(api.CmdAudit), "sheet": cmd(api.CmdSheet), "branches": cmd(api.CmdNames),
		"least bad by f":                                    {Kind: api.CmdAdvise, Line: 12, List: l(2)},
		"most kx 1 by f, o,c":                               {Kind: api.CmdAdvise, Line: 11, Row: 1, N: 1, List: l(2, 4, 0)},
		"least bad by f,f,f,f,f,kf":                         {Kind: api.CmdAdvise, Line: 12, List: l(2, 2, 2, 2, 2, 6)},
		"raw bad by c from 0.00 step 0.01 points 2":         {Kind: api.CmdCurve, Line: 0, List: l(12, 0, 2), Val: cent(0), N: 1, Name: "raw"},
		"rate kx 2 by kc 1 from -5.00 step 1.00 points 64":  {Kind: api.CmdCurve, Line: 5, Row: 1, List: l(11, 2, 64), Val: cent(-500), N: 100, Name: "rate"},
		"slope sum by c from - 5.00 step 0.00 points 0 # s": {Kind: api.CmdCurve, Line: 0, List: l(8, 0, 0), Val: cent(-500), Name: "slope"},
		"crash": cmd(api.CmdCrash), "arm 0": counted(api.CmdArm, 0), "arm 77": counted(api.CmdArm, 77), "fail 3": failing(0, 3), "fail 3 after 8": failing(8, 3), "fail 0 after 0": failing(0, 0),
		"reopen": reopening(), "reopen 0": reopening(0), "reopen 1 2 3 4 5 6": reopening(1, 2, 3, 4, 5, 6),
	})
	if c, err := desk.Parse(kindsPack(t), "reopen"); err != nil || c.List != nil {
		t.Errorf("a list that isn't nil: %v, %v", c, err)
	}
}

// misreads asks for what Parse answers of a line.
func misreads(t *testing.T, p api.Pack, text string, at int, e api.Errno) {
	t.Helper()
	c, err := desk.Parse(p, text)
	var m *api.Misread
	if !sameOf(c, api.Cmd{}) || !errors.As(err, &m) || error(m) != err || m.Line != 1 || m.At != at || m.Err != error(e) {
		t.Errorf("%q: %+v, %v, want error %d at %d", text, c, err, int(e), at)
	}
}

func TestP20_17Misreads(t *testing.T) {
	p := kindsPack(t)
	const token, name, end = api.ErrRulesToken, api.ErrRulesName, api.ErrRulesEnd
	for _, x := range []struct {
		text string
		at   int
		want api.Errno
	}{
		{"", 0, end}, {"  ", 2, end}, {"# set c 1.00", 12, end}, {"\n\n", 2, end}, {"undo\nredo", 9, end}, {"undo\nredo\n", 10, end}, {"bogus\nredo", 10, end},
		{"set c ?", 6, api.ErrWordsByte}, {"Set c 1.00", 0, api.ErrWordsByte}, {"set c 01.00", 6, api.ErrWordsNumber}, {"set d 2023-02-29", 6, api.ErrWordsDate}, {"undo\nset c 1.0", 11, api.ErrWordsNumber}, {"bogus \"a", 6, api.ErrWordsText}, {"fork abcdefghijklm", 5, api.ErrWordsLong}, {strings.Repeat(" ", 8001), 0, api.ErrWordsLong}, {"set c 99999999999.99999", 6, api.ErrWordsNumber},
		{"bogus", 0, token}, {"5", 0, token}, {",", 0, token}, {"\"set\" c 1.00", 0, token}, {" c", 1, token},
		{"set", 3, end}, {"set ", 4, end}, {"set # c", 7, end}, {"set c", 5, end}, {"set kc", 6, end}, {"set kc 0", 8, end}, {"set c -", 7, end}, {"set n - ", 8, end},
		{"set 5 1.00", 4, token}, {"set c 5", 6, token}, {"set c -5", 7, token}, {"set c - -5.00", 8, token}, {"set c yes", 6, token}, {"set c 5%", 6, token}, {"set c +5.00", 6, token}, {"set n 5.00", 6, token}, {"set n -5.00", 7, token},
		{"set f 1", 6, token}, {"set f maybe", 6, token}, {"set f -yes", 6, token}, {"set f \"yes\"", 6, token}, {"set d 5", 6, token}, {"set d -2000-01-01", 6, token}, {"set o 1", 6, token}, {"set o -big", 6, token}, {"set o size", 6, name}, {"set o single", 6, name}, {"set ko 0 big", 9, name},
		{"set x 1.00", 4, name}, {"set kid 1.00", 4, name}, {"set c 1.00 5", 11, token}, {"set c 1.00 ,", 11, token}, {"set c 0 1.00", 6, token}, {"set kc 1.00", 7, token}, {"set kc -1 1.00", 7, token}, {"set kc 0 1", 9, token}, {"set x", 4, name},
		{"clear", 5, end}, {"clear kf", 8, end}, {"clear c 0", 8, token}, {"clear kid", 6, name},
		{"add", 3, end}, {"add c", 4, name}, {"add 5", 4, token}, {"add kid 0", 8, token}, {"drop", 4, end}, {"drop kid", 8, end}, {"drop kid x", 9, token}, {"drop kid -1", 9, token}, {"drop c 0", 5, name}, {"drop kid, 0", 8, token}, {"drop kid 0 1", 11, token},
		{"undo 1", 5, token}, {"redo c", 5, token}, {"forget", 6, end}, {"forget -1", 7, token}, {"forget 1.00", 7, token}, {"forget 1 2", 9, token},
		{"fork", 4, end}, {"fork 9", 5, token}, {"fork a b", 7, token}, {"switch \"a\"", 7, token}, {"delete", 6, end}, {"merge ,", 6, token}, {"diff", 4, end}, {"diff a, b", 6, token},
		{"query c 0", 8, token}, {"query kx", 8, end}, {"explain kx 0 0", 13, token}, {"explain", 7, end}, {"all c", 4, token}, {"audit 1", 6, token}, {"sheet 1", 6, token}, {"branches a", 9, token},
		{"least", 5, end}, {"least bad", 9, end}, {"least bad f", 10, token}, {"least bad by", 12, end}, {"least bad by f,", 15, end}, {"least bad by f o", 15, token}, {"least bad by f,,o", 15, token}, {"least bad by 5", 13, token}, {"least bad by x", 13, name}, {"most bad by f, x", 15, name}, {"most kx by f", 8, token}, {"most kx 0 by f", -1, 0}, {"least x by y", 6, name}, {"least bad 0 by f", 10, token}, {"least bad by kf 0", 16, token},
		{"least bad by f,f,f,f,f,f,f", 24, token}, {"least bad by f,f,f,f,f,f,", 24, token}, {"least bad by f,f,f,f,f,f f", 25, token},
		{"raw", 3, end}, {"raw bad", 7, end}, {"raw bad c", 8, token}, {"raw bad by", 10, end}, {"raw bad by x", 11, name}, {"raw bad by c", 12, end}, {"raw bad by c to", 13, token}, {"raw bad by c from", 17, end}, {"raw bad by c from 5", 18, token}, {"raw bad by c from -", 19, end}, {"raw bad by c from --5.00", 19, token}, {"raw bad by c from 5.00", 22, end}, {"raw bad by c from 5.00 step", 27, end}, {"raw bad by c from 5.00 step -5.00", 28, token}, {"raw bad by c from 5.00 step 5", 28, token}, {"rate bad by c from 5.00 step 5.00 points", 40, end}, {"slope bad by c from 5.00 step 5.00 points 5.00", 42, token}, {"slope bad by c from 5.00 step 5.00 points -5", 42, token}, {"slope bad by c from 5.00 step 5.00 points 5 5", 44, token}, {"slope bad by kc from 5.00 step 5.00 points 5", 16, token}, {"slope kx by c from 5.00 step 5.00 points 5", 9, token},
		{"crash 1", 6, token}, {"arm", 3, end}, {"arm -1", 4, token}, {"arm 1 1", 6, token}, {"fail", 4, end}, {"fail after 1", 5, token}, {"fail 1 after", 12, end}, {"fail 1 behind 1", 7, token}, {"fail 1 2", 7, token}, {"fail 1 after 1 1", 15, token}, {"fail 1 after x", 13, token},
		{"reopen a", 7, token}, {"reopen 1, 2", 8, token}, {"reopen 1 2 3 4 5 6 7", 19, token}, {"reopen 1 2 3 4 5 6 x", 19, token}, {"reopen -1", 7, token}, {"import", 0, token},
	} {
		if x.want == 0 {
			if _, err := desk.Parse(p, x.text); err != nil {
				t.Errorf("%q: %v", x.text, err)
			}
			continue
		}
		misreads(t, p, x.text, x.at, x.want)
	}
}

// The first line or group of a name counts; packs that aren't well formed are taken as they are.
func TestP20_17AnyPack(t *testing.T) {
	p := api.Pack{Groups: []api.Group{{Name: "a"}, {Name: "a"}}, Lines: []api.Line{
		{Name: "a", Type: api.Cents, Group: -1}, {Name: "a", Type: api.Flag, Group: -1}, {Name: "odd", Type: 9, Group: -1}, {Name: "wild", Type: api.Choice, Options: 7, Group: 99}, {Name: "", Type: api.Cents, Group: -1},
	}}
	for text, want := range map[string]api.Cmd{"set a 1.00": setTo(0, 0, cent(100)), "add a": group(api.CmdAdd, 0, 0), "query odd": ask(2, 0), "query wild 5": ask(3, 5)} {
		if got, err := desk.Parse(p, text); err != nil || !sameOf(got, want) {
			t.Errorf("%q: %+v, %v", text, got, err)
		}
	}
	misreads(t, p, "set odd 1.00", 8, api.ErrRulesToken)
	misreads(t, p, "set odd", 7, api.ErrRulesEnd)
	misreads(t, p, "set wild 0 big", 11, api.ErrRulesName)
	misreads(t, p, "set 5", 4, api.ErrRulesToken)
	misreads(t, api.Pack{}, "set a 1.00", 4, api.ErrRulesName)
	misreads(t, api.Pack{}, "add a", 4, api.ErrRulesName)
	misreads(t, api.Pack{}, "least a by b", 6, api.ErrRulesName)
	misreads(t, api.Pack{}, "raw 5 by b", 4, api.ErrRulesToken)
}

// Commands by chance, written as lines, are read as they were; lines that are spoilt are refused where the patterns refuse them.
func TestP20_17ByChance(t *testing.T) {
	r, seen := newRand(2017), tally{}
	extra := []string{"", "c", "by", "5", "5.00", ",", "-", "yes", "after", "la", "ga", "single", "2024-02-29", "\n", "#", "?", "\"a\"", "10%", "set", "points", "01"}
	for range 60 {
		d := &director{Rand: r, pack: madePack(r, 8), rigs: true}
		for range 200 {
			c := d.any()
			if c.Kind == api.CmdCurve {
				c.Val.Kind = api.Cents
			}
			c = relevant(c)
			s, ok := d.lineText(c)
			if !ok {
				continue
			}
			got, err := desk.Parse(d.pack, s)
			if err != nil || !sameOf(got, c) {
				t.Fatalf("%q: %+v, %v, want %+v", s, got, err, c)
			}
			seen[fmt.Sprint("kind ", c.Kind)]++
			l := strings.Fields(s)
			at := r.Intn(len(l) + 1)
			switch r.Intn(3) {
			case 0:
				l = slices.Insert(l, at, pick(r, extra...))
			case 1:
				l = l[:at]
			case 2:
				if at < len(l) {
					l[at] = pick(r, extra...)
				}
			}
			s = strings.Join(l, pick(r, " ", "  "))
			f, ok := faultOf(d.pack, s)
			_, err = desk.Parse(d.pack, s)
			var m *api.Misread
			errors.As(err, &m)
			if ok != (err == nil) || !ok && (m == nil || m.Line != 1 || m.At != f.at || errnoOf(err) != f.e) {
				t.Fatalf("%q: %v, want error %d at %d", s, err, int(f.e), f.at)
			}
			seen[fmt.Sprint("error ", int(f.e))]++
		}
	}
	for kind := api.CmdSet; kind <= api.CmdReopen; kind++ {
		if kind != api.CmdImport {
			seen.atLeast(t, 5, fmt.Sprint("kind ", kind))
		}
	}
	seen.atLeast(t, 50, "error 0", "error 41", "error 42", "error 50", "error 51", "error 56")
}

// relevant: a command without what its line doesn't say.
func relevant(c api.Cmd) api.Cmd {
	switch c.Kind {
	case api.CmdClear:
		c.Val = blank
	case api.CmdAdd:
		c.Row = 0
	case api.CmdUndo, api.CmdRedo:
		c.Name = ""
	}
	return c
}

// playOf asks for what Play tells of lines, each with what is told of it.
func playOf(t *testing.T, text string, script ...[2]string) {
	t.Helper()
	var lines []string
	want := ""
	for _, s := range script {
		lines = append(lines, s[0])
		want += "> " + s[0] + "\n" + s[1]
	}
	if got, err := desk.Play(text, lines...); err != nil || got != want {
		t.Errorf("%s\n%v, want\n%s", got, err, want)
	}
}

// The chapter's examples.
func TestP20_18Examples(t *testing.T) {
	playOf(t, simple, [2]string{"query tax", "fault needed\n"}, [2]string{"set wage 15000.00", "ok\n"}, [2]string{"set filing single", "ok\n"}, [2]string{"query tax", "1600.00\n"},
		[2]string{"set filing joint", "ok\n"}, [2]string{"query tax", "0.00\n"}, [2]string{"explain tax", "tax = 0.00 by clause 1; filing = joint; wage = 15000.00\n"}, [2]string{"undo", "ok\n"}, [2]string{"query tax", "1600.00\n"}, [2]string{"redo", "ok\n"}, [2]string{"redo", "error 112\n"})
	playOf(t, simple, [2]string{"set age 0 9", "error 205\n"}, [2]string{"add kid", "row 0\n"}, [2]string{"add kid", "row 1\n"}, [2]string{"set age 1 9", "ok\n"}, [2]string{"query credit 1", "2000.00\n"}, [2]string{"query credit 0", "fault needed\n"}, [2]string{"query credit 2", "blank\n"},
		[2]string{"drop kid 0", "ok\n"}, [2]string{"drop kid 0", "error 205\n"}, [2]string{"drop kid 3", "error 202\n"})
	playOf(t, simple, [2]string{"set wage 100.00", "ok\n"}, [2]string{"fork what", "ok\n"}, [2]string{"add kid", "row 0\n"}, [2]string{"switch what", "ok\n"}, [2]string{"undo", "error 111\n"}, [2]string{"set wage 200.00", "ok\n"}, [2]string{"branches", "main *what\n"}, [2]string{"diff main", "wage 200.00 -> 100.00\nkid 0 blank -> yes\n"},
		[2]string{"switch main", "ok\n"}, [2]string{"query wage", "100.00\n"}, [2]string{"merge what", "ok\n"}, [2]string{"query wage", "200.00\n"}, [2]string{"set wage 300.00", "ok\n"}, [2]string{"merge what", "error 206\n  wage 100.00 300.00 200.00\n"}, [2]string{"delete main", "error 124\n"})
	playOf(t, simple, [2]string{"set filing single", "ok\n"}, [2]string{"audit", "hard 2 rich fault needed \"too much\"\nhard 3 wage blank \"wage\"\nhard 4 tax fault needed \"tax\"\n"}, [2]string{"set wage 1000000.01", "ok\n"}, [2]string{"audit", "hard 1 rich yes \"too much\"\n"})
	playOf(t, simple, [2]string{"set wage 15000.00", "ok\n"}, [2]string{"least tax by filing", "0.00 filing=joint\n"}, [2]string{"most tax by filing", "1600.00 filing=single\n"}, [2]string{"query filing", "blank\n"}, [2]string{"least tax by wage", "error 160\n"})
	playOf(t, simple, [2]string{"set wage 1.00", "ok\n"}, [2]string{"fail 1 after 1", "ok\n"}, [2]string{"set wage 2.00", "error 208\n"}, [2]string{"query wage", "1.00\n"}, [2]string{"set wage 3.00", "error 208\n"}, [2]string{"crash", "ok\n"}, [2]string{"query wage", "error 207\n"}, [2]string{"reopen 100", "ok\n"}, [2]string{"query wage", "2.00\n"}, [2]string{"undo", "ok\n"}, [2]string{"query wage", "1.00\n"},
		[2]string{"arm 5", "ok\n"}, [2]string{"set wage 9.00", "error 207\n"}, [2]string{"reopen", "ok\n"}, [2]string{"query wage", "1.00\n"}, [2]string{"redo", "ok\n"}, [2]string{"query wage", "2.00\n"})
	playOf(t, simple, [2]string{"set wage", "misread 8 56\n"}, [2]string{"set wages 1.00", "misread 4 51\n"}, [2]string{"query tax 1", "misread 10 50\n"}, [2]string{"set wage 01.00", "misread 9 42\n"}, [2]string{"", "misread 0 56\n"}, [2]string{"set tax 1.00", "error 203\n"}, [2]string{"fork a_b", "error 120\n"})
}

func TestP20_18Told(t *testing.T) {
	if s, err := desk.Play(simple); s != "" || err != nil {
		t.Errorf("no lines: %q, %v", s, err)
	}
	playOf(t, simple, [2]string{"undo\nundo", "misread 9 56\n"}, [2]string{" set wage 1.00 # so", "ok\n"})
	playOf(t, kindsText, [2]string{"set c -0.05", "ok\n"}, [2]string{"set n -3", "ok\n"}, [2]string{"set f no", "ok\n"}, [2]string{"set d 2024-02-29", "ok\n"}, [2]string{"set o big", "ok\n"}, [2]string{"add kid", "row 0\n"}, [2]string{"add kid", "row 1\n"}, [2]string{"add slip", "row 0\n"}, [2]string{"set kf 1 yes", "ok\n"}, [2]string{"set kc 1 100.01", "ok\n"}, [2]string{"set ko 0 joint", "ok\n"}, [2]string{"drop kid 0", "ok\n"},
		[2]string{"query c", "-0.05\n"}, [2]string{"query n", "-3\n"}, [2]string{"query f", "no\n"}, [2]string{"query d", "2024-02-29\n"}, [2]string{"query o", "big\n"}, [2]string{"query which", "huge\n"}, [2]string{"query born", "2023-11-29\n"}, [2]string{"query bad", "0.01\n"}, [2]string{"query ko 0", "joint\n"}, [2]string{"query ko 1", "blank\n"}, [2]string{"query kf 1", "yes\n"},
		[2]string{"all", "c -0.05\nn -3\nf no\nd 2024-02-29\no big\nkc 1 100.01\nkf 1 yes\nko 0 joint\nsum 99.96\nborn 2023-11-29\nwhich huge\nkx 1 100.01\nbad 0.01\n"},
		[2]string{"audit", "hard 1 old 1 yes \"too \\\"old\\\"\"\n"}, [2]string{"set f yes", "ok\n"}, [2]string{"clear kf 1", "ok\n"},
		[2]string{"audit", "hard 2 old 1 fault needed \"too \\\"old\\\"\"\nhard 3 kf 1 blank \"kf\"\nhard 4 kx 1 fault needed \"kx\"\nsoft 1 soft yes \"so \\\\ so\"\n"},
		[2]string{"query which", "small\n"}, [2]string{"set n 0", "ok\n"}, [2]string{"query bad", "fault zero\n"}, [2]string{"set n 1000000000", "ok\n"}, [2]string{"query born", "fault range\n"}, [2]string{"set c 99999999999.99", "ok\n"}, [2]string{"set f no", "ok\n"}, [2]string{"query sum", "fault over\n"},
		[2]string{"explain which", "which = small by default; used kid.1 = no; used kid.2 = yes; kf.2 = -; used kid.3 = no\n"},
		[2]string{"least sum by f", "-1.00 f=yes\n"}, [2]string{"most sum by o, f", "-1.00 o=small f=yes\n"}, [2]string{"least bad by o", "99.99 o=small\n"}, [2]string{"clear n", "ok\n"}, [2]string{"least bad by o", "none\n"}, [2]string{"least bad by kf", "error 202\n"}, [2]string{"least which by f", "error 162\n"})
}

// Differences and conflicts of all kinds of cells; sides without a value.
func TestP20_18Sides(t *testing.T) {
	playOf(t, kindsText, [2]string{"add kid", "row 0\n"}, [2]string{"set kc 0 1.00", "ok\n"}, [2]string{"set o small", "ok\n"}, [2]string{"set d 1900-01-01", "ok\n"}, [2]string{"fork a", "ok\n"}, [2]string{"drop kid 0", "ok\n"}, [2]string{"clear d", "ok\n"}, [2]string{"set o big", "ok\n"}, [2]string{"set f yes", "ok\n"}, [2]string{"set n 1", "ok\n"},
		[2]string{"switch a", "ok\n"}, [2]string{"set kc 0 2.00", "ok\n"}, [2]string{"set d 1900-01-02", "ok\n"}, [2]string{"set o huge", "ok\n"}, [2]string{"set f no", "ok\n"}, [2]string{"add slip", "row 0\n"}, [2]string{"set ko 0 joint", "ok\n"}, [2]string{"switch main", "ok\n"},
		[2]string{"merge a", "error 206\n  f blank yes no\n  d 1900-01-01 blank 1900-01-02\n  o small big huge\n  kid 0 yes blank yes\n  kc 0 1.00 blank 2.00\n"},
		[2]string{"diff a", "n 1 -> blank\nf yes -> no\nd blank -> 1900-01-02\no big -> huge\nkid 0 blank -> yes\nkc 0 blank -> 2.00\nslip 0 blank -> yes\nko 0 blank -> joint\n"}, [2]string{"diff main", ""}, [2]string{"branches", "a *main\n"}, [2]string{"crash", "ok\n"}, [2]string{"branches", "error 207\n"}, [2]string{"reopen", "ok\n"}, [2]string{"branches", "a *main\n"})
}

func TestP20_18CurvesAndSheets(t *testing.T) {
	blanks := strings.Repeat(" ", 40) + "\n"
	playOf(t, simple, [2]string{"set filing single", "ok\n"},
		[2]string{"raw tax by wage from 0.00 step 1000.00 points 1", "1 points\n" + strings.Repeat(blanks, 7) + "*" + strings.Repeat("-", 39) + "\n"},
		[2]string{"slope tax by wage from 0.00 step 1000.00 points 3", "2 points\n" + strings.Repeat(blanks, 7) + "*" + strings.Repeat(" ", 38) + "*\n"},
		[2]string{"slope tax by wage from 0.00 step 1000.00 points 1", "0 points\n" + strings.Repeat(blanks, 8)},
		[2]string{"raw credit 0 by wage from 0.00 step 1000.00 points 2", "0 points\n" + strings.Repeat(blanks, 8)},
		[2]string{"rate tax by wage from 0.00 step 0.00 points 3", "error 171\n"}, [2]string{"rate tax by wage from 0.00 step 1.00 points 65", "error 170\n"}, [2]string{"raw tax by credit 0 from 0.00 step 1.00 points 1", "error 203\n"})
	w := benchOf(t, simple)
	page := w.Do(cmd(api.CmdSheet)).Pages[0]
	playOf(t, simple, [2]string{"sheet", page}, [2]string{"sheet", page})
	var long strings.Builder
	long.WriteString("pack long 2024\n")
	for i := range 40 {
		fmt.Fprintf(&long, "input l%d cents\n", i)
	}
	w = benchOf(t, long.String())
	if pages := w.Do(cmd(api.CmdSheet)).Pages; len(pages) == 2 {
		playOf(t, long.String(), [2]string{"sheet", pages[0] + pages[1]})
	} else {
		t.Errorf("%d pages", len(pages))
	}
}

// told: what Play is to say of a command and its reply, by another hand.
func told(p api.Pack, g *model, c api.Cmd, r api.Reply, branch string) string {
	name := func(cell int) string {
		place, _ := g.graph.Place(cell)
		s, of := "", place.Index
		switch place.Kind {
		case api.PlaceLine:
			s, of = p.Lines[place.Index].Name, p.Lines[place.Index].Group
		case api.PlaceFlag:
			s = p.Groups[place.Index].Name
		case api.PlaceCheck:
			s, of = p.Checks[place.Index].Name, p.Checks[place.Index].Group
		}
		if of >= 0 {
			s += fmt.Sprint(" ", place.Row)
		}
		return s
	}
	text := func(cell int, v api.Value) string {
		place, _ := g.graph.Place(cell)
		if place.Kind != api.PlaceLine {
			place.Index = -1
		}
		return shownAs(p, place.Index, v)
	}
	s := ""
	switch {
	case r.Err != 0:
		s = fmt.Sprintln("error", int(r.Err))
		for _, x := range r.Conflicts {
			cell := int(x.Ours.Id)
			s += fmt.Sprintln(" ", name(cell), text(cell, x.Base.Now), text(cell, x.Ours.Now), text(cell, x.Theirs.Now))
		}
	case c.Kind == api.CmdAdd:
		s = fmt.Sprintln("row", r.Count)
	case c.Kind == api.CmdQuery:
		s = fmt.Sprintln(text(g.cell(c.Line, c.Row), r.Val))
	case c.Kind == api.CmdAll:
		for cell, v := range r.Vals {
			if place, _ := g.graph.Place(cell); place.Kind == api.PlaceLine && g.rowUsed(place.Index, place.Row) {
				s += fmt.Sprintln(name(cell), text(cell, v))
			}
		}
	case c.Kind == api.CmdDiff:
		for _, x := range r.Changes {
			s += fmt.Sprintln(name(int(x.Id)), text(int(x.Id), x.Was), "->", text(int(x.Id), x.Now))
		}
	case c.Kind == api.CmdExplain:
		s = trace.Print(p, r.Trace)
	case c.Kind == api.CmdAudit:
		for _, f := range r.Findings {
			cell := 0
			for g.place(cell) != f.Place {
				cell++
			}
			quoted, _ := words.Quote(f.Text)
			s += fmt.Sprintln(map[bool]string{true: "hard", false: "soft"}[f.Hard], f.Rule, name(cell), text(cell, f.Val), quoted)
		}
	case c.Kind == api.CmdAdvise && !r.Advice.Ok:
		s = "none\n"
	case c.Kind == api.CmdAdvise:
		s = words.Amount(r.Advice.Val.Num)
		for i, v := range r.Advice.Picks {
			s += fmt.Sprintf(" %s=%s", p.Lines[c.List[i]].Name, shownAs(p, c.List[i], v))
		}
		s += "\n"
	case c.Kind == api.CmdCurve:
		s = fmt.Sprintln(len(r.Points), "points")
		rows, _ := curve.Draw(r.Points, 40, 8)
		for _, row := range rows {
			s += row + "\n"
		}
	case c.Kind == api.CmdSheet:
		s = strings.Join(r.Pages, "")
	case c.Kind == api.CmdNames:
		l := slices.Clone(r.Names)
		l[slices.Index(l, branch)] = "*" + branch
		s = fmt.Sprintln(strings.Join(l, " "))
	default:
		s = "ok\n"
	}
	return s
}

func (m *model) place(cell int) api.Place {
	place, _ := m.graph.Place(cell)
	return place
}

// Plays by chance: what is told of each line is what the model's reply says.
func TestP20_18ByChance(t *testing.T) {
	r, seen := newRand(2018), tally{}
	for range 120 {
		made := madePack(r, 8)
		text, err := rules.Print(made)
		if err != nil {
			continue
		}
		d := &director{Rand: r, pack: made, rigs: true}
		g, e := modelAt(t, compiled(t, text), nil)
		if e != api.OK || !slices.Equal(compiled(t, text), put(t, made)) {
			t.Fatalf("error %d", int(e))
		}
		var lines []string
		want := ""
		for range 100 {
			c := d.any()
			if c.Kind == api.CmdCurve {
				c.Val.Kind = api.Cents
			}
			c = relevant(c)
			s, ok := d.lineText(c)
			if !ok {
				continue
			}
			lines = append(lines, s)
			reply := g.do(c)
			branch := ""
			if g.book != nil {
				branch = g.book.current
			}
			x := told(made, g, c, reply, branch)
			want += "> " + s + "\n" + x
			seen[fmt.Sprint("kind ", c.Kind, " ", reply.Err == api.OK)]++
		}
		if got, err := desk.Play(text, lines...); err != nil || got != want {
			at := 0
			for at < len(got) && at < len(want) && got[at] == want[at] {
				at++
			}
			t.Fatalf("%v; from byte %d on:\n%.400s\nwant\n%.400s", err, at, got[max(0, at-200):], want[max(0, at-200):])
		}
	}
	for kind := api.CmdSet; kind <= api.CmdReopen; kind++ {
		if kind != api.CmdImport {
			seen.atLeast(t, 5, fmt.Sprint("kind ", kind, " true"))
		}
	}
	seen.atLeast(t, 5, "kind 11 false")
}

// P21.2's other half, over texts: what Compile makes is taken, and is the pack's bytes.
func TestP21_2Compiled(t *testing.T) {
	for _, text := range []string{simple, kindsText} {
		b := compiled(t, text)
		p, _, e := pack.Get(b)
		if e != api.OK || !slices.Equal(put(t, p), b) {
			t.Error("not the pack's bytes")
		}
		opened(t, b)
	}
}
