package rules_test

import (
	"math/rand"
	"slices"
	"strings"
	"testing"

	"levy/api"
	"levy/rules"
	"levy/words"
)

// grammar: the chapter's forms once more, as rules of a grammar: parts in <> stand for others, those with a # for a kind of token, all else for itself. A form without parts is the empty one.
const grammar = `
<text>    pack #name #count #end <items>
<items>   | <item> <items>
<item>    options #name : #name <names> #end | table #name : <band> <bands> #end | group #name #count #end | input <head> | line <head> <clauses>
<item>    check #name <hard> <in> #text #end when <0> #end
<names>   | , #name <names>
<band>    <minus> #amount <minus> #percent
<bands>   | , <band> <bands>
<minus>   | -
<head>    #name <type> <in> <must> #end
<type>    cents | count | flag | day | #name
<in>      | in #name
<must>    | must
<hard>    | hard
<clauses> | is <0> #end <clauses> | at #count when <0> is <0> #end <clauses>
<0>       if <0> then <0> else <0> | <1>
<1>       <2> <ors>
<ors>     | or <2> <ors>
<2>       <3> <ands>
<ands>    | and <3> <ands>
<3>       not <3> | <4>
<4>       <5> | <5> <compare> <5>
<compare> = | != | < | <= | > | >=
<5>       <6> <sums>
<sums>    | + <6> <sums> | - <6> <sums>
<6>       <7> <times>
<times>   | * <7> <times>
<7>       - <7> | <8>
<8>       #amount | #count | #date | yes | no | #name . #name | #name | ( <0> )
<8>       sum ( #name ) | least ( #name ) | greatest ( #name ) | any ( #name ) | all ( #name ) | used ( #name ) | blank ( #name )
<8>       min ( <0> , <0> <more> ) | max ( <0> , <0> <more> ) | abs ( <0> ) | clamp ( <0> , <0> , <0> )
<8>       scale ( <0> , <minus> <ratio> , <mode> ) | split ( <0> , <0> , <mode> ) | round ( <0> , <minus> #amount , <mode> ) | bracket ( #name , <0> )
<8>       either ( <0> , <0> ) | year ( <0> ) | age ( <0> , <0> ) | months ( <0> , <0> ) | days ( <0> , <0> ) | addmonths ( <0> , <0> )
<more>    | , <0> <more>
<ratio>   #percent | #count / #count
<mode>    down | up | inward | halfup | halfeven
<expr>    <0> #end
`

func grammarForms() map[string][][]string {
	forms := map[string][][]string{}
	for _, l := range strings.Split(strings.TrimSpace(grammar), "\n") {
		part, rest, _ := strings.Cut(l, " ")
		for _, form := range strings.Split(" "+rest, " | ") {
			forms[part] = append(forms[part], strings.Fields(form))
		}
	}
	return forms
}

// state: what may still come, the next part first; nil: nothing.
type state struct {
	part string
	rest *state
}

// fits tells whether a token may stand for a part.
func fits(tok api.Token, part string) bool {
	switch part {
	case "#name":
		return tok.Kind == api.TokenName && !slices.Contains(allWords, tok.Text)
	case "#amount":
		return tok.Kind == api.TokenAmount
	case "#count":
		return tok.Kind == api.TokenCount
	case "#percent":
		return tok.Kind == api.TokenPercent
	case "#date":
		return tok.Kind == api.TokenDate
	case "#text":
		return tok.Kind == api.TokenText
	case "#end":
		return tok.Kind == api.TokenEnd
	}
	return (tok.Kind == api.TokenName || tok.Kind == api.TokenSign) && tok.Text == part
}

// firstUnfit goes through all ways of the grammar at once. It tells the number of the first token that none of them has; or, if a way ends with the last token, -1; or how many tokens there are.
func firstUnfit(forms map[string][][]string, start string, l []api.Token) int {
	at := []*state{{part: start}}
	for i, tok := range l {
		var next []*state
		for len(at) > 0 {
			s := at[len(at)-1]
			at = at[:len(at)-1]
			switch {
			case s == nil:
			case len(s.part) > 1 && s.part[0] == '<' && s.part != "<=":
				for _, form := range forms[s.part] {
					t := s.rest
					for _, part := range slices.Backward(form) {
						t = &state{part, t}
					}
					at = append(at, t)
				}
			case fits(tok, s.part):
				next = append(next, s.rest)
			}
		}
		if len(next) == 0 {
			return i
		}
		at = next
	}
	for len(at) > 0 {
		s := at[len(at)-1]
		at = at[:len(at)-1]
		if s == nil {
			return -1
		}
		for _, form := range forms[s.part] {
			if len(form) == 0 {
				at = append(at, s.rest)
			}
		}
	}
	return len(l)
}

// holdsModel asks that a reading's fault is where the grammar has it: a token that can't stand there just there, any other fault not behind that.
func holdsModel(t *testing.T, forms map[string][][]string, start, s string, err error) {
	t.Helper()
	l, _, e := words.Scan(s)
	if e != api.OK {
		t.Fatalf("%q: %d", s, e)
	}
	first := firstUnfit(forms, start, l)
	if err == nil {
		if first != -1 {
			t.Errorf("%q is read, and token %d can't stand there", s, first)
		}
		return
	}
	at, want := len(s), api.ErrRulesEnd
	if first >= 0 && first < len(l) {
		at, want = l[first].At, api.ErrRulesToken
	}
	m := err.(*api.Misread)
	got := m.At
	for range m.Line - 1 {
		got += 1 + strings.Index(s[got-m.At:], "\n")
	}
	switch m.Err {
	case api.ErrRulesToken, api.ErrRulesEnd:
		if first == -1 || m.Err != want || got != at {
			t.Errorf("%q: %v (byte %d), want error %d at byte %d (token %d)", s, err, got, want, at, first)
		}
	case api.ErrRulesName, api.ErrRulesTwice, api.ErrRulesNumber, api.ErrRulesMany, api.ErrRulesDeep:
		if first != -1 && got > at {
			t.Errorf("%q: %v (byte %d), behind byte %d, where token %d can't stand", s, err, got, at, first)
		}
	default:
		t.Errorf("%q: %v", s, err)
	}
}

// spoilt: a list of tokens with a few of them left out, put in, doubled, or swapped with the next.
func spoilt(r *rand.Rand, l []api.Token, others []api.Token) []api.Token {
	l = slices.Clone(l)
	for range r.Intn(4) {
		if len(l) < 2 {
			break
		}
		i := r.Intn(len(l) - 1)
		switch r.Intn(5) {
		case 0:
			l = slices.Delete(l, i, i+1)
		case 1:
			l = slices.Insert(l, i, others[r.Intn(len(others))])
		case 2:
			l[i] = others[r.Intn(len(others))]
		case 3:
			l[i], l[i+1] = l[i+1], l[i]
		case 4:
			l = l[:i+1]
		}
	}
	return l
}

// spelled: a text of tokens, a blank or a line feed behind each.
func spelled(l []api.Token) string {
	var b strings.Builder
	for _, tok := range l {
		if tok.Kind == api.TokenEnd {
			b.WriteString("\n")
			continue
		}
		one, _ := words.Print([]api.Token{tok, {Kind: api.TokenEnd}})
		b.WriteString(strings.TrimSuffix(one, "\n") + " ")
	}
	return b.String()
}

const vocabulary = `pack options table group input line check in must hard cents count flag day is at when if then else and or not yes no
c n f d r o g t x y sum min scale round split bracket used blank clamp down halfeven none 1.00 7 12.5% 2024-01-01 "text" "if" ( ) , : . = != < <= > >= + - * /`

func TestP5_2Model(t *testing.T) {
	r := rand.New(rand.NewSource(3))
	forms := grammarForms()
	others, _, _ := words.Scan(vocabulary)
	others = slices.DeleteFunc(others, func(tok api.Token) bool { return tok.Kind == api.TokenEnd })
	others = append(others, api.Token{Kind: api.TokenEnd})
	seen := map[api.Errno]int{}
	for i := range 4000 {
		p := madePack(r)
		s, err := rules.Print(p)
		if err != nil || len(s) > 1500 {
			continue
		}
		if i%4 == 0 {
			s = simple
		}
		l, _, _ := words.Scan(s)
		s = spelled(spoilt(r, l, others))
		_, err = rules.Parse(s)
		holdsModel(t, forms, "<text>", s, err)
		if m, ok := err.(*api.Misread); ok {
			seen[m.Err.(api.Errno)]++
		} else {
			seen[api.OK]++
		}
		if t.Failed() {
			return
		}
	}
	for _, e := range []api.Errno{api.OK, api.ErrRulesToken, api.ErrRulesName} {
		if seen[e] < 20 {
			t.Errorf("too few of one kind: %v", seen)
		}
	}
}

func TestP5_8Model(t *testing.T) {
	r := rand.New(rand.NewSource(4))
	forms := grammarForms()
	others, _, _ := words.Scan(vocabulary)
	p := plainOver()
	seen := map[api.Errno]int{}
	for range 10000 {
		e := madeExpr(r, p, 1+r.Intn(4))
		s, err := rules.PrintExpr(e, p)
		if err != nil || len(s) > 800 {
			continue
		}
		l, _, _ := words.Scan(s)
		s = spelled(spoilt(r, l, others))
		_, err = rules.ParseExpr(s, p, 0)
		holdsModel(t, forms, "<expr>", s, err)
		if m, ok := err.(*api.Misread); ok {
			seen[m.Err.(api.Errno)]++
		} else {
			seen[api.OK]++
		}
		if t.Failed() {
			return
		}
	}
	for _, e := range []api.Errno{api.OK, api.ErrRulesToken, api.ErrRulesName, api.ErrRulesEnd} {
		if seen[e] < 20 {
			t.Errorf("too few of one kind: %v", seen)
		}
	}
}
