package curve

import "levy/api"

// picture: the rows from below, each with room for the widest picture.
type picture [api.PageLines][api.PageWidth]byte

// frame: a picture's size, and the points' ends that lie at its edges.
type frame struct {
	wide, high      int
	first, last     int64
	least, greatest float32
}

// frameOf tells the frame of points in order.
func frameOf(l []api.Point, wide, high int) frame {
	f := frame{wide: wide, high: high}
	if len(l) == 0 {
		return f
	}
	f.first, f.last = l[0].X, l[len(l)-1].X
	f.least, f.greatest = l[0].Y, l[0].Y
	for _, p := range l {
		f.least, f.greatest = min(f.least, p.Y), max(f.greatest, p.Y)
	}
	return f
}

// row tells the row of a height.
func (f frame) row(y float32) int {
	if f.greatest == f.least {
		return 0
	}
	part := (y - f.least) / (f.greatest - f.least)
	return int(float32(part*float32(f.high-1)) + 0.5) // converted, or a compiler may join the product and the sum into one rounding
}

// column tells the column of a place.
func (f frame) column(x int64) int {
	if f.first == f.last {
		return 0
	}
	return int((x - f.first) * int64(f.wide-1) / (f.last - f.first))
}

// drawn tells the picture of the frame's points.
func (f frame) drawn(l []api.Point) picture {
	var p picture
	for row := range f.high {
		f.fill(&p[row], ' ')
	}
	if len(l) > 0 && f.least <= 0 && f.greatest >= 0 {
		f.fill(&p[f.row(0)], '-')
	}
	for _, at := range l {
		p[f.row(at.Y)][f.column(at.X)] = '*'
	}
	return p
}

// fill makes a row of one character.
func (f frame) fill(row *[api.PageWidth]byte, c byte) {
	for column := range f.wide {
		row[column] = c
	}
}

// lines tells a picture's lines, the uppermost first.
func (f frame) lines(p picture) []string {
	lines := make([]string, 0, f.high)
	for row := f.high - 1; row >= 0; row-- {
		lines = append(lines, string(p[row][:f.wide]))
	}
	return lines
}
