package grid

import (
	"slices"

	"trellis/api"
)

// Steps tells for each axis how far apart the cells of two neighbours are.
// Steps are compared with ==, so those that are of no matter stay 0: of axes
// that do not count, and of axes of size 1.
type Steps [api.MaxAxes]int

// Grid says which cell each index of a shape means: the first one, plus each
// number of the index times the step of its axis.
type Grid struct {
	Shape Shape
	First int
	Steps Steps
}

// Whole lays a shape over cells one behind the other, in the order of its indices.
func Whole(shape Shape, first int) Grid {
	whole := Grid{Shape: shape, First: first}
	step := 1
	for axis := shape.Axes - 1; axis >= 0; axis-- {
		whole.put(axis, shape.Sizes[axis], step)
		step *= shape.Sizes[axis]
	}
	return whole
}

// put gives an axis its size, and its step where that matters.
func (g *Grid) put(axis, size, step int) {
	if size == 1 {
		step = 0
	}
	g.Shape.Sizes[axis], g.Steps[axis] = size, step
}

// push puts one more axis behind the last one.
func (g *Grid) push(size, step int) {
	g.Shape.Axes++
	g.put(g.Shape.Axes-1, size, step)
}

// Cell tells the cell of an index, and whether it is one.
func (g Grid) Cell(index []int) (int, bool) {
	if !g.Shape.Has(index) {
		return 0, false
	}
	cell := g.First
	for axis, i := range index {
		cell += i * g.Steps[axis]
	}
	return cell, true
}

// Cells tells the cells of all indices, in their order.
func (g Grid) Cells() []int {
	cells := []int{g.First}
	for axis := range g.Shape.Axes {
		cells = repeat(cells, g.Shape.Sizes[axis], g.Steps[axis])
	}
	return cells
}

// repeat puts behind each cell the others of one more axis: the axis that is
// taken last so goes fastest.
func repeat(cells []int, size, step int) []int {
	more := make([]int, 0, len(cells)*size)
	for _, cell := range cells {
		for i := range size {
			more = append(more, cell+i*step)
		}
	}
	return more
}

// Meets tells whether some cell is one of both grids.
func (g Grid) Meets(other Grid) bool {
	own := g.Cells()
	slices.Sort(own)
	return slices.ContainsFunc(other.Cells(), func(cell int) bool {
		_, found := slices.BinarySearch(own, cell)
		return found
	})
}
