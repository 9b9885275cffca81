package rules_test

import (
	"math/rand"
	"strings"
	"testing"
	"time"

	"levy/api"
	"levy/rules"
	"levy/words"
)

// civil: a day's text, by the library's calendar.
func civil(n int64) string {
	return time.Date(1900, 1, 1+int(n), 0, 0, 0, 0, time.UTC).Format("2006-01-02")
}

// plainOver: a pack whose names are all names, each of which stands once.
func plainOver() api.Pack {
	p := over()
	p.Options, p.Tables, p.Groups = p.Options[:1], p.Tables[:2], p.Groups[:2]
	p.Lines = p.Lines[:6]
	return p
}

func TestP5_15Packs(t *testing.T) {
	r := rand.New(rand.NewSource(1))
	printed, mixed := 0, 0
	for range 3000 {
		p := madePack(r)
		s, err := rules.Print(p)
		if err != nil {
			continue
		}
		printed++
		if len(s) > api.MaxRuleText {
			t.Fatalf("%d bytes", len(s))
		}
		reads(t, s, p)
		other := loudPack(r, p)
		if len(other) > api.MaxRuleText {
			continue
		}
		mixed++
		reads(t, other, p)
		if again, err := rules.Print(parsed(t, other)); err != nil || again != s {
			t.Fatalf("Print of Parse(%q): %v, %q, want %q", other, err, again, s)
		}
		if t.Failed() {
			return
		}
	}
	if printed < 2950 || mixed < 2500 {
		t.Errorf("only %d packs were printed, %d of them read from another text", printed, mixed)
	}
}

func TestP5_15Exprs(t *testing.T) {
	r := rand.New(rand.NewSource(2))
	p := plainOver()
	printed := 0
	for range 20000 {
		e := madeExpr(r, p, 1+r.Intn(6))
		s, err := rules.PrintExpr(e, p)
		if err != nil {
			continue
		}
		printed++
		if again, err := rules.ParseExpr(s, p, 0); err != nil || text(again) != text(e) {
			t.Fatalf("PrintExpr(%+v): %q, which is %+v, %v", e, s, again, err)
		}
		if other := loud(r, p, e); len(other) <= api.MaxRuleText {
			if again, err := rules.ParseExpr(other, p, 0); err != nil || text(again) != text(e) {
				t.Fatalf("%q is %+v, %v, want %+v", other, again, err, e)
			}
		}
		spacedWell(t, s)
		if len(s) < 300 {
			leastParentheses(t, p, s, e)
		}
		if t.Failed() {
			return
		}
	}
	if printed < 19600 {
		t.Errorf("only %d expressions were printed", printed)
	}
}

// spacedWell holds a text against the rule of P5.12 for blanks.
func spacedWell(t *testing.T, s string) {
	t.Helper()
	l, _, _ := words.Scan(s)
	want := ""
	for i, tok := range l[:len(l)-1] {
		word := strings.TrimSpace(s[tok.At:l[i+1].At])
		if i > 0 && !joined(l, i) {
			want += " "
		}
		want += word
	}
	if s != want {
		t.Errorf("blanks: %q, want %q", s, want)
	}
}

// joined tells whether no blank stands between a token and the one ahead of it.
func joined(l []api.Token, i int) bool {
	ahead, tok := l[i-1], l[i]
	operand := func(k int) bool { // whether what ends at a token is an operand, so that a - behind it is OpSub
		if k < 0 {
			return false
		}
		switch x := l[k]; x.Kind {
		case api.TokenName:
			return !strings.Contains(" if then else and or not ", " "+x.Text+" ")
		case api.TokenSign:
			return x.Text == ")"
		}
		return true
	}
	switch {
	case tok.Kind == api.TokenSign && strings.Contains(",:).", tok.Text):
		return true
	case ahead.Kind == api.TokenSign && strings.Contains("(.", ahead.Text):
		return true
	case tok.Kind == api.TokenSign && tok.Text == "/", ahead.Kind == api.TokenSign && ahead.Text == "/":
		return true
	case tok.Kind == api.TokenSign && tok.Text == "(":
		if ahead.Kind == api.TokenName && operand(i-1) {
			return true
		}
	}
	return ahead.Kind == api.TokenSign && ahead.Text == "-" && !operand(i-2)
}

// leastParentheses asks that no pair of parentheses but those of calls can be left out.
func leastParentheses(t *testing.T, p api.Pack, s string, e api.Expr) {
	t.Helper()
	var open []int
	for i := range len(s) {
		switch s[i] {
		case '(':
			open = append(open, i)
		case ')':
			from := open[len(open)-1]
			open = open[:len(open)-1]
			less := s[:from] + " " + s[from+1:i] + " " + s[i+1:]
			if again, err := rules.ParseExpr(less, p, 0); err == nil && text(again) == text(e) {
				t.Errorf("%q needs no parentheses at %d", s, from)
			}
		}
	}
}

// Blanks, line feeds between items, remarks and needless parentheses change nothing.
func TestP5_15WhatChangesNothing(t *testing.T) {
	s := simple
	s = strings.ReplaceAll(s, "\n", " # pack a 1\n\n\t\n")
	s = strings.ReplaceAll(s, " ", "  \t")
	s = strings.ReplaceAll(s, "too  \tmuch", "too much")
	s = strings.Replace(s, "20000.00", "((20000.00))", 1)
	s = strings.Replace(s, "filing  \t=  \tstatus.joint", "(((filing)=status\t.\tjoint))", 1)
	s = strings.Replace(s, "bracket(rates,  \twage)", "(bracket (rates,((wage))))", 1)
	reads(t, "\n# x\n"+s, simplePack())
	prints(t, parsed(t, s), simple)
}

// A rate above MaxRatio millionths can be read, not written.
func TestP5_15GreatRates(t *testing.T) {
	for rate, ok := range map[string]bool{"100000%": true, "100000.01%": false, "-100000%": true, "-100000.01%": false, "100000000000%": false} {
		p := parsed(t, "pack a 1\ntable t: 0.00 "+rate)
		s, err := rules.Print(p)
		if ok && (err != nil || s != "pack a 1\ntable t: 0.00 "+rate+"\n") || !ok && (err != api.ErrRulesPrint || s != "") {
			t.Errorf("%s: %q, %v", rate, s, err)
		}
	}
}
