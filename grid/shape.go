// Package grid: shapes, and which cell each index of a shape means.
package grid

import "trellis/api"

// Shape has the sizes of its axes. Shapes are compared with ==, so the numbers
// behind the first Axes ones stay 0.
type Shape struct {
	Sizes [api.MaxAxes]int
	Axes  int
}

// ShapeOf makes the shape of these sizes, and tells whether it may be.
func ShapeOf(sizes []int) (Shape, bool) {
	if len(sizes) > api.MaxAxes {
		return Shape{}, false
	}
	shape := Shape{Axes: len(sizes)}
	for axis, size := range sizes {
		if size < 1 || size > api.MaxSize {
			return Shape{}, false
		}
		shape.Sizes[axis] = size
	}
	if shape.Volume() > api.MaxVolume {
		return Shape{}, false
	}
	return shape, true
}

// Volume tells how many indices there are.
func (s Shape) Volume() int {
	volume := 1
	for axis := range s.Axes {
		volume *= s.Sizes[axis]
	}
	return volume
}

// List tells the sizes in new memory.
func (s Shape) List() []int {
	list := make([]int, s.Axes)
	for axis := range list {
		list[axis] = s.Sizes[axis]
	}
	return list
}

// Has tells whether these numbers are an index of the shape.
func (s Shape) Has(index []int) bool {
	if len(index) != s.Axes {
		return false
	}
	for axis, i := range index {
		if i < 0 || i >= s.Sizes[axis] {
			return false
		}
	}
	return true
}

// hasAxis tells whether there is such an axis.
func (s Shape) hasAxis(axis int) bool {
	return axis >= 0 && axis < s.Axes
}

// isOrder tells whether these are the numbers of all axes, each once.
func (s Shape) isOrder(axes []int) bool {
	if len(axes) != s.Axes {
		return false
	}
	var times [api.MaxAxes]int
	for _, axis := range axes {
		if !s.hasAxis(axis) || times[axis] > 0 {
			return false
		}
		times[axis]++
	}
	return true
}
