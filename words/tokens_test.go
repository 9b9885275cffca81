package words_test

import (
	"math/rand"
	"slices"
	"strings"
	"testing"

	"levy/api"
	"levy/words"
)

// gone: what Tokens gives, left behind the first n; false, if the numbers don't rise from 0 on.
func gone(s string, n int) ([]api.Token, bool) {
	var l []api.Token
	if n == 0 {
		return l, true
	}
	for i, t := range words.Tokens(s) {
		if i != len(l) {
			return l, false
		}
		l = append(l, t)
		if len(l) == n {
			break
		}
	}
	return l, true
}

func TestP4_10AheadOfTheFault(t *testing.T) {
	for _, c := range []struct {
		s    string
		want []api.Token
	}{
		{"a b !c", []api.Token{name(0, "a"), name(2, "b")}},
		{"a\n!", []api.Token{name(0, "a"), end(1)}},
		{"a\n12 \"x", []api.Token{name(0, "a"), end(1), count(2, 12)}},
		{"a", []api.Token{name(0, "a"), end(1)}},
		{"", nil}, {"!", nil}, {"# a", nil}, {"a" + strings.Repeat(" ", 8000), nil},
	} {
		if got, ok := gone(c.s, -1); !ok || !slices.Equal(got, c.want) {
			t.Errorf("Tokens(%s): %v, want %v", short(c.s), got, c.want)
		}
	}
	if got, ok := gone("a"+strings.Repeat(" ", 7999), -1); !ok || !slices.Equal(got, []api.Token{name(0, "a"), end(8000)}) {
		t.Errorf("at the bound: %v", got)
	}
}

func TestP4_10AsScan(t *testing.T) {
	r := rand.New(rand.NewSource(2))
	for range 20000 {
		s := made(r, bits, " ")
		want := modelTokens(s)
		if got, ok := gone(s, -1); !ok || !slices.Equal(got, want.l) {
			t.Fatalf("Tokens(%q): %v, want %v", s, got, want.l)
		}
	}
}

func TestP4_10LeftAndGoneThroughAgain(t *testing.T) {
	s := "f(x, 2.50)\n7% !"
	all, _ := gone(s, -1)
	seq := words.Tokens(s)
	for n := 1; n <= len(all); n++ {
		var l []api.Token
		for _, tok := range seq {
			l = append(l, tok)
			if len(l) == n {
				break
			}
		}
		if !slices.Equal(l, all[:n]) {
			t.Errorf("left behind %d: %v", n, l)
		}
	}
	for range seq {
		for i, tok := range seq {
			if tok != all[i] {
				t.Errorf("within itself: token %d is %v", i, tok)
			}
		}
	}
}

func TestP4_10NeverNil(t *testing.T) {
	for _, s := range []string{"", "!", "\n", strings.Repeat("a ", 4001)} {
		if seq := words.Tokens(s); seq == nil {
			t.Errorf("Tokens(%s) is nil", short(s))
		}
	}
}
