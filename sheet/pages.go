package sheet

import (
	"strconv"
	"strings"

	"levy/api"
	"levy/pack"
)

const (
	firstPlace  = 2 // behind the head and the rule
	footLine    = api.PageLines - 1
	placesAPage = footLine - firstPlace
	maxPages    = 8 // the most that a return needs: its entries are no more than its cells (a row's entry counts for its flag) and groups
	sumDigits   = 8
)

// fault: what is wrong with pages, and where.
type fault struct {
	page, line int
	errno      api.Errno
}

// pagesOf lays the lines of all entries out on pages. (A pack has a line, so there is an entry, and a page.)
func pagesOf(p api.Pack, lines []string) []string {
	for len(lines)%placesAPage != 0 {
		lines = append(lines, padded(""))
	}
	many := len(lines) / placesAPage
	pages := make([]string, many)
	for i := range pages {
		pages[i] = pageOf(head(p, i, many), lines[i*placesAPage:(i+1)*placesAPage])
	}
	return pages
}

func pageOf(head string, places []string) string {
	var s strings.Builder
	s.WriteString(head + "\n" + rule() + "\n")
	for _, line := range places {
		s.WriteString(line + "\n")
	}
	s.WriteString(foot(s.String()) + "\n")
	return s.String()
}

func head(p api.Pack, page, many int) string {
	left := p.Name + " " + strconv.Itoa(p.Year)
	right := "page " + strconv.Itoa(page+1) + " of " + strconv.Itoa(many)
	return left + strings.Repeat(" ", api.PageWidth-len(left)-len(right)) + right
}

func rule() string { return strings.Repeat("=", api.PageWidth) }

// foot tells the last line of a page, by all that stands ahead of it.
func foot(ahead string) string {
	sum := strconv.FormatUint(uint64(pack.Sum([]byte(ahead))), 16)
	return strings.Repeat("-", api.PageWidth-sumDigits) + strings.Repeat("0", sumDigits-len(sum)) + sum
}

// padded tells a text with blanks up to the width of a line.
func padded(text string) string { return text + strings.Repeat(" ", api.PageWidth-len(text)) }

// frameFault tells what is wrong with pages around their places.
func frameFault(p api.Pack, pages []string) fault {
	if len(pages) == 0 || len(pages) > maxPages {
		return fault{errno: api.ErrSheetSize}
	}
	for i, page := range pages {
		if !isPage(page) {
			return fault{page: i, errno: api.ErrSheetSize}
		}
	}
	for i, page := range pages {
		ahead := page[:footLine*(api.PageWidth+1)]
		switch {
		case lineOf(page, 0) != head(p, i, len(pages)):
			return fault{i, 0, api.ErrSheetHead}
		case lineOf(page, 1) != rule():
			return fault{i, 1, api.ErrSheetHead}
		case lineOf(page, footLine) != foot(ahead):
			return fault{i, footLine, api.ErrSheetHead}
		}
	}
	return fault{}
}

// isPage tells whether a text has just as many lines as a page, all of its width.
func isPage(text string) bool {
	if len(text) != api.PageLines*(api.PageWidth+1) {
		return false
	}
	for i := range len(text) {
		if (text[i] == '\n') != (i%(api.PageWidth+1) == api.PageWidth) {
			return false
		}
	}
	return true
}

// lineOf tells a line of a page, without its line feed.
func lineOf(page string, line int) string {
	from := line * (api.PageWidth + 1)
	return page[from : from+api.PageWidth]
}

// placesOf tells what stands at the places of pages, one page behind the other.
func placesOf(pages []string) []string {
	var places []string
	for _, page := range pages {
		for line := firstPlace; line < footLine; line++ {
			places = append(places, lineOf(page, line))
		}
	}
	return places
}

// faultAt tells a fault at a place.
func faultAt(place int, errno api.Errno) fault {
	return fault{place / placesAPage, firstPlace + place%placesAPage, errno}
}
