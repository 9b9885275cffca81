package audit

import (
	"iter"

	"levy/api"
)

// reader tells what a cell holds.
type reader func(cell uint32) api.Value

// asker gives what some questions find, each asked when its turn comes.
type asker func(read reader) iter.Seq[api.Finding]

// question: a rule and a cell.
type question struct {
	rule rule
	cell cell
}

// questionsOf tells the questions of some rules, the cells in their order under each.
func questionsOf(rules []rule, cells []cell) []question {
	var l []question
	for _, r := range rules {
		for _, c := range cells {
			if r.asks(c) {
				l = append(l, question{r, c})
			}
		}
	}
	return l
}

// asking closes over lists of questions, which are asked one list behind the other.
func asking(lists ...[]question) asker {
	return func(read reader) iter.Seq[api.Finding] {
		return func(yield func(api.Finding) bool) {
			know := once(read)
			for _, l := range lists {
				for _, q := range l {
					if f, ok := q.ask(know); ok && !yield(f) {
						return
					}
				}
			}
		}
	}
}

// ask tells the finding, if the question's rule finds its cell.
func (q question) ask(know reader) (api.Finding, bool) {
	if !q.cell.counts(know) {
		return api.Finding{}, false
	}
	v := know(q.cell.number)
	if !q.rule.finds(v) {
		return api.Finding{}, false
	}
	return api.Finding{Rule: q.rule.number, Hard: q.rule.hard, Place: q.cell.place, Val: v, Text: q.cell.text}, true
}

// once asks read for each cell one time at most: what it answered counts on.
func once(read reader) reader {
	told := map[uint32]api.Value{}
	return func(cell uint32) api.Value {
		v, ok := told[cell]
		if !ok {
			v = read(cell)
			told[cell] = v
		}
		return v
	}
}
