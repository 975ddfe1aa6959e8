package temperleylieb

import "slices"

// diagram has lines between points, each of which is the end of one line, and joints that continue a line at another point.
type diagram struct {
	lines  []int  // the other end of the line at each point
	joints []int  // the point where the line at each point continues, or none
	seen   []bool // whether each point has been passed
}

// newDiagram returns a diagram without joints, which keeps the lines.
func newDiagram(lines []int) diagram {
	return diagram{lines, unconnected(len(lines)), make([]bool, len(lines))}
}

// stack returns the diagram of a on top of b: the points of a, then those of b.
func stack(n int, a, b []int) diagram {
	lines := slices.Clone(a)
	for _, x := range b {
		lines = append(lines, 2*n+x)
	}
	g := newDiagram(lines)
	for i := range n {
		connect(g.joints, n+i, 2*n+i)
	}
	return g
}

// pointOf returns the point of the product that an outer point of a stack becomes.
func pointOf(n, outer int) int {
	if outer < n {
		return outer
	}
	return outer - 2*n
}

// follow passes lines and joints from a point on and returns the point where this ends, or begins again if the line is closed.
func (g diagram) follow(start int) int {
	i := start
	for {
		j := g.lines[i]
		g.seen[i], g.seen[j] = true, true
		if g.joints[j] == none {
			return j
		}
		i = g.joints[j]
		if i == start {
			return start
		}
	}
}

// countLoops returns the number of lines that have not been followed. All of them must be closed.
func (g diagram) countLoops() int {
	loops := 0
	for i := range g.lines {
		if !g.seen[i] {
			g.follow(i)
			loops++
		}
	}
	return loops
}
