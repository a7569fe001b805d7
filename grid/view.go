package grid

// Cut takes count indices of an axis, from start on by step, and tells whether
// there are such.
func (g Grid) Cut(axis, start, count, step int) (Grid, bool) {
	if !g.Shape.hasAxis(axis) || !cuts(g.Shape.Sizes[axis], start, count, step) {
		return Grid{}, false
	}
	cut := g
	cut.First += start * g.Steps[axis]
	cut.put(axis, count, step*g.Steps[axis])
	return cut, true
}

// cuts tells whether an axis of that size has all the indices of a cut. What
// can't be of any axis is refused first, so that the last sum does not wrap round.
func cuts(size, start, count, step int) bool {
	if step == 0 || count < 1 || count > size || start < 0 || start >= size {
		return false
	}
	if count == 1 {
		return true
	}
	if step <= -size || step >= size {
		return false
	}
	end := start + (count-1)*step
	return end >= 0 && end < size
}

// Turn puts the axes in another order, and tells whether it is one of them all.
func (g Grid) Turn(axes []int) (Grid, bool) {
	if !g.Shape.isOrder(axes) {
		return Grid{}, false
	}
	turned := g
	for to, from := range axes {
		turned.put(to, g.Shape.Sizes[from], g.Steps[from])
	}
	return turned, true
}

// Stretch lays the cells over another shape, and tells whether that is possible.
func (g Grid) Stretch(shape Shape) (Grid, bool) {
	lacks := shape.Axes - g.Shape.Axes
	if lacks < 0 {
		return Grid{}, false
	}
	// Axes that are lacked, and those of size 1, have the step 0: however far
	// they are stretched, all their indices mean one cell.
	stretched := Grid{Shape: shape, First: g.First}
	for axis := range g.Shape.Axes {
		size := g.Shape.Sizes[axis]
		if size != 1 && size != shape.Sizes[lacks+axis] {
			return Grid{}, false
		}
		stretched.Steps[lacks+axis] = g.Steps[axis]
	}
	return stretched, true
}

// Layers tells for each index of an axis, in their order, the cells there, laid
// over the other axes, and whether there is such an axis.
func (g Grid) Layers(axis int) ([]Grid, bool) {
	if !g.Shape.hasAxis(axis) {
		return nil, false
	}
	layers := make([]Grid, g.Shape.Sizes[axis])
	for i := range layers {
		layers[i] = g.layer(axis, i)
	}
	return layers, true
}

// layer leaves an axis out, at one of its indices.
func (g Grid) layer(axis, i int) Grid {
	layer := Grid{First: g.First + i*g.Steps[axis]}
	for other := range g.Shape.Axes {
		if other != axis {
			layer.push(g.Shape.Sizes[other], g.Steps[other])
		}
	}
	return layer
}

// Reshape lays the same cells, in the same order, over another shape of the
// same volume, and tells whether there are steps for that.
func (g Grid) Reshape(shape Shape) (Grid, bool) {
	// An axis's second index settles its step: these are the only ones that may do.
	other := Grid{Shape: shape, First: g.First}
	next := 1
	for axis := shape.Axes - 1; axis >= 0; axis-- {
		other.put(axis, shape.Sizes[axis], g.nth(next)-g.First)
		next *= shape.Sizes[axis]
	}
	own, few := g.merged(), other.merged()
	if few.Shape != own.Shape || few.Steps != own.Steps { // the first cell is the same
		return Grid{}, false
	}
	return other, true
}

// nth tells the cell of the index that has n ahead of it in the order.
func (g Grid) nth(n int) int {
	cell := g.First
	for axis := g.Shape.Axes - 1; axis >= 0; axis-- {
		cell += n % g.Shape.Sizes[axis] * g.Steps[axis]
		n /= g.Shape.Sizes[axis]
	}
	return cell
}

// merged tells the grid of the fewest axes with the same cells in the same
// order. There is just one: its last axis ends where the cells first stop going
// on by one step, and so on outward. So two grids have the same cells in the
// same order if, and only if, they are equal when merged.
func (g Grid) merged() Grid {
	few := Grid{First: g.First}
	for axis := range g.Shape.Axes {
		size, step := g.Shape.Sizes[axis], g.Steps[axis]
		if size == 1 {
			continue
		}
		last := few.Shape.Axes - 1
		if last >= 0 && few.Steps[last] == size*step {
			few.put(last, few.Shape.Sizes[last]*size, step)
			continue
		}
		few.push(size, step)
	}
	return few
}
