package words_test

import (
	"math/rand"
	"slices"
	"strings"
	"testing"

	"levy/api"
	"levy/words"
)

// madeToken: one of all that Scan could tell, and sometimes one that it couldn't.
func madeToken(r *rand.Rand) api.Token {
	texts := []string{"", "a", "z_9", "abcdefghijkl", "abcdefghijklm", "<=", "(", "!", "a b", `\"`, "#", "é", strings.Repeat("x", 40), strings.Repeat("x", 41)}
	nums := []int64{0, 0, 1, 7, 99, 100, 45349, 109572, 109573, 1000000000, 1000000001, 9999999999999, 10000000000000, -1, r.Int63n(1000)}
	tok := api.Token{Kind: r.Intn(10), At: r.Intn(9)}
	switch tok.Kind {
	case api.TokenName, api.TokenText, api.TokenSign:
		tok.Text = texts[r.Intn(len(texts))]
	case api.TokenPercent:
		tok.Num, tok.Den = nums[r.Intn(len(nums))], nums[r.Intn(len(nums))]
	case api.TokenAmount, api.TokenCount, api.TokenDate:
		tok.Num = nums[r.Intn(len(nums))]
	}
	return tok
}

func TestP4_13ScanOfPrint(t *testing.T) {
	r := rand.New(rand.NewSource(3))
	written := 0
	for range 100000 {
		var l []api.Token
		for range r.Intn(4) {
			l = append(l, madeToken(r))
		}
		if len(l) > 0 {
			l = append(l, end(0))
		}
		s, e := words.Print(l)
		if e != api.OK {
			continue
		}
		written++
		if got := scan(s); got.e != api.OK || !slices.Equal(placeless(got.l), placeless(l)) {
			t.Fatalf("Print(%v) is %q, and Scan of that %v", l, s, got)
		}
	}
	if written < 10000 {
		t.Errorf("only %d lists were written", written)
	}
}

func TestP4_13PrintOfScan(t *testing.T) {
	r := rand.New(rand.NewSource(4))
	taken := 0
	for range 30000 {
		s := made(r, goodBits, strings.Repeat(" ", r.Intn(2)))
		first := scan(s)
		if first.e != api.OK {
			continue
		}
		taken++
		p, e := words.Print(first.l)
		if e != api.OK {
			t.Fatalf("Scan(%q) is %v, which Print refuses: %d", s, first.l, e)
		}
		if again := scan(p); again.e != api.OK || !slices.Equal(placeless(again.l), placeless(first.l)) {
			t.Fatalf("Scan(%q) is %v, of its print %q %v", s, first.l, p, again)
		} else if q, e := words.Print(again.l); q != p || e != api.OK {
			t.Fatalf("Print of the print %q: %q, %d", p, q, e)
		}
	}
	if taken < 10000 {
		t.Errorf("only %d texts were taken", taken)
	}
}

// A text that Scan takes may have tokens whose text is too long.
func TestP4_13TooLong(t *testing.T) {
	got := scan(strings.Repeat("(", 4001))
	if got.e != api.OK {
		t.Fatalf("error %d", got.e)
	}
	cannotPrint(t, got.l...)
}

func TestP4_14PlacesAndAlone(t *testing.T) {
	r := rand.New(rand.NewSource(5))
	// Without remarks, so that nothing but blanks lies between a token and the next one.
	pieces := slices.DeleteFunc(slices.Clone(goodBits), func(s string) bool { return strings.HasPrefix(s, "#") })
	for range 20000 {
		s := made(r, pieces, strings.Repeat(" ", r.Intn(2)))
		l := scan(s).l
		for i, tok := range l {
			if i > 0 && tok.At <= l[i-1].At {
				t.Fatalf("%q: places don't rise: %v", s, l)
			}
			if tok.Kind == api.TokenEnd {
				continue
			}
			w := strings.TrimRight(s[tok.At:l[i+1].At], " \t")
			alone := tok
			alone.At = 0
			if got := scan(w); !same(got, answer{l: []api.Token{alone, end(len(w))}}) {
				t.Fatalf("%q: token %v alone, %q: %v", s, tok, w, got)
			}
		}
	}
}

func TestP4_14Joined(t *testing.T) {
	r := rand.New(rand.NewSource(6))
	joined := 0
	for range 60000 {
		a, b := made(r, goodBits, strings.Repeat(" ", r.Intn(2))), made(r, goodBits, " ")
		x, y := scan(a), scan(b)
		if x.e != api.OK || y.e != api.OK {
			continue
		}
		joined++
		want := slices.Clone(x.l)
		for _, tok := range y.l {
			tok.At += len(a) + 1
			want = append(want, tok)
		}
		if got := scan(a + "\n" + b); !same(got, answer{l: want}) {
			t.Fatalf("%q and %q: %v, want %v", a, b, got, want)
		}
	}
	if joined < 10000 {
		t.Errorf("only %d pairs were taken", joined)
	}
	half := strings.Repeat("a ", 1999) + "a"
	if got := scan(half + "\n" + half + " "); got.e != api.OK || len(got.l) != 4002 {
		t.Errorf("%d tokens, error %d", len(got.l), got.e)
	}
	refuses(t, strings.Repeat("a ", 2000)+"\n"+strings.Repeat("a ", 2000), 0, api.ErrWordsLong)
}
