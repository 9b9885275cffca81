package graph

import "levy/api"

// witness tells the cycle of the least cell that hangs on itself; none, if no cell does.
func (g *Graph) witness() []int {
	for cell := range g.places {
		if cycle := g.cycle(cell); len(cycle) > 0 {
			return cycle
		}
	}
	return nil
}

// cycle tells, of the shortest ways by which one comes from a cell back to it, the one whose cells are the least, the first ones first; none, if there is no way.
func (g *Graph) cycle(cell int) []int {
	steps := g.stepsTo(cell)
	if steps[cell] == 0 {
		return nil
	}
	way := []int{cell}
	for left := steps[cell] - 1; left > 0; left-- {
		for read := range g.Reads(cell) {
			if steps[read] == left { // the first that leads back as shortly as may be: Reads rises
				cell = read
				break
			}
		}
		way = append(way, cell)
	}
	return way
}

// stepsTo tells of each cell how many reads the shortest way from it to a cell has; 0: there is none. Of the cell itself it is the way around, never no way at all.
func (g *Graph) stepsTo(cell int) [api.MaxCells]int {
	var steps [api.MaxCells]int
	front := []int{cell}
	for n := 1; len(front) > 0; n++ {
		var next []int
		for _, reached := range front {
			for user := range g.Users(reached) {
				if steps[user] == 0 {
					steps[user] = n
					next = append(next, user)
				}
			}
		}
		front = next
	}
	return steps
}
