package rules_test

import (
	"strings"
	"testing"

	"levy/api"
	"levy/rules"
)

func TestP5_1PlacesOfScan(t *testing.T) {
	misread(t, "@", 1, 0, api.ErrWordsByte)
	misread(t, "pack a 2024\n@", 2, 0, api.ErrWordsByte)
	misread(t, "pack a 2024\n\n \t line x @", 3, 10, api.ErrWordsByte)
	misread(t, "pack a 012", 1, 7, api.ErrWordsNumber)
	misread(t, "pack a 2024\ncheck x \"ab", 2, 8, api.ErrWordsText)
	misread(t, "pack a 2024\ncheck x \"a\x01", 2, 10, api.ErrWordsText)
	misread(t, "pack a 2024\nline x day\n  is 2023-02-29", 3, 5, api.ErrWordsDate)
	misread(t, "pack abcdefghijklm 2024", 1, 5, api.ErrWordsLong)
	misread(t, "\n\n"+strings.Repeat(" ", 7999), 1, 0, api.ErrWordsLong)
	_, err := rules.ParseExpr("c +\n 12.5", over(), 0)
	isMisread(t, "12.5", err, 2, 1, api.ErrWordsNumber)
}

// A fault of the words is told ahead of all others, wherever these stand.
func TestP5_1ScanIsFirst(t *testing.T) {
	misread(t, "line\nline x\n  is $", 3, 5, api.ErrWordsByte)
	misread(t, "pack a 2024\ninput x nothing\ninput x cents\n\xff", 4, 0, api.ErrWordsByte)
	_, err := rules.ParseExpr(") $", over(), 0)
	isMisread(t, ") $", err, 1, 2, api.ErrWordsByte)
}

// Of several faults the first one from the left is told.
func TestP5_1FirstFromTheLeft(t *testing.T) {
	text := "pack a 2024\ninput x %s\ninput %s cents\ngroup g %s\nline y cents\n  is %s\n  is 1.00%s"
	parts := []string{"cents", "z", "1", "1.00", ""}
	faults := []string{"none", "x", "1.00", "not not not not not not not not yes", " +"}
	want := []struct {
		line, at int
		e        api.Errno
	}{{2, 8, api.ErrRulesName}, {3, 6, api.ErrRulesTwice}, {4, 8, api.ErrRulesToken}, {6, 5, api.ErrRulesDeep}, {7, 11, api.ErrRulesToken}}
	for set := 1; set < 32; set++ {
		s, first := text, -1
		for i := range parts {
			if set&(1<<i) == 0 {
				s = strings.Replace(s, "%s", parts[i], 1)
				continue
			}
			s = strings.Replace(s, "%s", faults[i], 1)
			if first < 0 {
				first = i
			}
		}
		misread(t, s, want[first].line, want[first].at, want[first].e)
	}
}

func TestP5_1PlaceOfTheEnd(t *testing.T) {
	misread(t, "", 1, 0, api.ErrRulesEnd)
	misread(t, " \t ", 1, 3, api.ErrRulesEnd)
	misread(t, "# nothing", 1, 9, api.ErrRulesEnd)
	misread(t, "\n\n", 3, 0, api.ErrRulesEnd)
	misread(t, "\n\n # x", 3, 4, api.ErrRulesEnd)
	head := "pack a 2024\ncheck x \"\""
	misread(t, head, 2, 10, api.ErrRulesEnd)
	misread(t, head+"  # x", 2, 15, api.ErrRulesEnd)
	misread(t, head+"\n", 3, 0, api.ErrRulesEnd)
	misread(t, head+"\n\n   ", 4, 3, api.ErrRulesEnd)
	for s, at := range map[string]int{"": 0, "   ": 3, "# c": 3} {
		_, err := rules.ParseExpr(s, over(), 0)
		isMisread(t, s, err, 1, at, api.ErrRulesEnd)
	}
	_, err := rules.ParseExpr("\n ", over(), 0)
	isMisread(t, "", err, 2, 1, api.ErrRulesEnd)
}

func TestP5_2LineEnds(t *testing.T) {
	want := api.Pack{Name: "a", Year: 2024}
	for _, s := range []string{"pack a 2024", "pack a 2024\n", "pack a 2024 # x", "pack a 2024\n\n"} {
		reads(t, s, want)
	}
	want.Lines = []api.Line{{Name: "x", Type: api.Flag, Options: -1, Group: -1, Clauses: []api.Clause{{Body: flag(1)}}}}
	reads(t, "pack a 2024\nline x flag\nis yes", want)
	reads(t, "pack a 2024\nline x flag\nis yes\n", want)
	for _, s := range []string{"c", "c\n", "c\n\n\n", "\n\nc # x\n#\n"} {
		readsExpr(t, s, line(lineC))
	}
}

// At each place of a text one token of every kind, but for those that may stand there, is refused, and so is the line's end.
func TestP5_2OtherTokens(t *testing.T) {
	kinds := []string{"zz", "when", "1.00", "7", "5%", "2024-01-01", `"is"`, "/", "\n"}
	for head, may := range map[string]string{
		"": "", "pack": "zz", "pack a": "7", "pack a 1": "\n", "pack a 1\n": "",
		"pack a 1\ngroup": "zz", "pack a 1\ngroup g": "7", "pack a 1\ngroup g 1": "\n",
		"pack a 1\noptions": "zz", "pack a 1\noptions o": "", "pack a 1\noptions o:": "zz", "pack a 1\noptions o: a": "\n", "pack a 1\noptions o: a,": "zz",
		"pack a 1\ntable": "zz", "pack a 1\ntable t": "", "pack a 1\ntable t:": "1.00", "pack a 1\ntable t: -": "1.00", "pack a 1\ntable t: 1.00": "5%",
		"pack a 1\ntable t: 1.00 -": "5%", "pack a 1\ntable t: 1.00 5%": "\n", "pack a 1\ntable t: 1.00 5%,": "1.00",
		"pack a 1\ninput": "zz", "pack a 1\noptions zz: a\ninput x": "zz", "pack a 1\ninput x cents": "\n", "pack a 1\ninput x cents must": "\n",
		"pack a 1\ngroup zz 1\ninput x cents in": "zz", "pack a 1\ngroup g 1\ninput x cents in g": "\n",
		"pack a 1\nline": "zz", "pack a 1\nline x day": "\n", "pack a 1\nline x day\n": "", "pack a 1\nline x day\nat": "7", "pack a 1\nline x day\nat 7": "when",
		"pack a 1\nline x day\nat 7 when yes": "", "pack a 1\nline x day\nis yes": "\n", "pack a 1\nline x day\nat 7 when yes is no": "\n",
		"pack a 1\ncheck": "zz", "pack a 1\ncheck c": `"is"`, "pack a 1\ncheck c hard": `"is"`, "pack a 1\ngroup zz 1\ncheck c in": "zz", "pack a 1\ngroup g 1\ncheck c in g": `"is"`,
		"pack a 1\ncheck c \"\"": "\n", "pack a 1\ncheck c \"\"\n": "when", "pack a 1\ncheck c \"\"\nwhen yes": "\n",
	} {
		fresh := head == "" || strings.HasSuffix(head, "\n") // a line feed makes no token there
		for _, k := range kinds {
			if k == may || fresh && k == "\n" {
				continue
			}
			ahead := head
			if !fresh && k != "\n" {
				ahead += " "
			}
			misread(t, ahead+k+" ) ) )", 1+strings.Count(head, "\n"), len(ahead)-strings.LastIndex(ahead, "\n")-1, api.ErrRulesToken)
		}
	}
}

// A text in quotes is never a word or a sign.
func TestP5_2QuotedWords(t *testing.T) {
	misread(t, `"pack" a 2024`, 1, 0, api.ErrRulesToken)
	misread(t, "pack a 2024\ninput x \"cents\"", 2, 8, api.ErrRulesToken)
	misread(t, "pack a 2024\ninput x cents \"must\"", 2, 14, api.ErrRulesToken)
	misread(t, "pack a 2024\noptions o \":\" a", 2, 10, api.ErrRulesToken)
	misreadExpr(t, `"yes"`, 0, api.ErrRulesToken)
	misreadExpr(t, `c "+" c`, 2, api.ErrRulesToken)
	misreadExpr(t, `c "=" c`, 2, api.ErrRulesToken)
	misreadExpr(t, `"c"`, 0, api.ErrRulesToken)
	misreadExpr(t, `sum "(" c )`, 4, api.ErrRulesToken)
	misreadExpr(t, `split(c, c, "up")`, 12, api.ErrRulesToken)
}
