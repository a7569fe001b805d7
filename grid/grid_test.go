package grid

import (
	"slices"
	"testing"
)

func shapeOf(t *testing.T, sizes ...int) Shape {
	t.Helper()
	shape, ok := ShapeOf(sizes)
	if !ok {
		t.Fatalf("ShapeOf(%v): may not be", sizes)
	}
	return shape
}

func TestShapesThatMayBe(t *testing.T) {
	for _, c := range []struct {
		sizes  []int
		volume int
	}{
		{nil, 1}, {[]int{1}, 1}, {[]int{60}, 60}, {[]int{2, 3}, 6}, {[]int{60, 60}, 3600},
		{[]int{60, 1, 60, 1}, 3600}, {[]int{1, 1, 1, 1}, 1}, {[]int{2, 3, 4, 5}, 120},
	} {
		shape := shapeOf(t, c.sizes...)
		if shape.Volume() != c.volume {
			t.Errorf("%v: Volume = %d, want %d", c.sizes, shape.Volume(), c.volume)
		}
		if !slices.Equal(shape.List(), c.sizes) {
			t.Errorf("%v: List = %v", c.sizes, shape.List())
		}
	}
}

func TestShapesThatMayNotBe(t *testing.T) {
	for _, sizes := range [][]int{
		{0}, {61}, {-1}, {2, 0}, {1, 1, 1, 1, 1}, {60, 60, 2}, {60, 60, 60, 60}, {59, 62},
		{1 << 62, 4}, {1 << 32, 1 << 32}, {-1 << 63, 2}, make([]int, 1000),
	} {
		if shape, ok := ShapeOf(sizes); ok || shape != (Shape{}) {
			t.Errorf("ShapeOf(%v) = %v, %v", sizes, shape, ok)
		}
	}
}

func TestShapesAreCompared(t *testing.T) {
	if shapeOf(t, 2, 3) != shapeOf(t, 2, 3) {
		t.Error("2 3 is not 2 3")
	}
	for _, other := range []Shape{shapeOf(t), shapeOf(t, 2), shapeOf(t, 3, 2), shapeOf(t, 2, 3, 1)} {
		if shapeOf(t, 2, 3) == other {
			t.Errorf("2 3 is %v", other)
		}
	}
}

func TestWholeGoesInOrder(t *testing.T) {
	whole := Whole(shapeOf(t, 2, 3, 4), 5)
	if whole.Steps != (Steps{12, 4, 1}) {
		t.Errorf("Steps = %v", whole.Steps)
	}
	cells := whole.Cells()
	next := 0
	for i := range 2 {
		for j := range 3 {
			for k := range 4 {
				cell, ok := whole.Cell([]int{i, j, k})
				if !ok || cell != 5+next || cells[next] != cell {
					t.Errorf("Cell(%d %d %d) = %d, %v, in Cells: %d", i, j, k, cell, ok, cells[next])
				}
				next++
			}
		}
	}
	if len(cells) != 24 {
		t.Errorf("Cells: %d of them", len(cells))
	}
}

func TestNoAxesMeanOneCell(t *testing.T) {
	whole := Whole(shapeOf(t), 7)
	if cell, ok := whole.Cell(nil); cell != 7 || !ok {
		t.Errorf("Cell() = %d, %v", cell, ok)
	}
	if cells := whole.Cells(); !slices.Equal(cells, []int{7}) {
		t.Errorf("Cells() = %v", cells)
	}
}

func TestStepsOfAnyKind(t *testing.T) {
	back := Grid{Shape: shapeOf(t, 2, 3), First: 10, Steps: Steps{1, -4}}
	if cells := back.Cells(); !slices.Equal(cells, []int{10, 6, 2, 11, 7, 3}) {
		t.Errorf("Cells() = %v", cells)
	}
}

func TestNoIndex(t *testing.T) {
	whole := Whole(shapeOf(t, 2, 3), 0)
	for _, index := range [][]int{
		nil, {0}, {0, 0, 0}, {2, 0}, {0, 3}, {-1, 0}, {0, -1}, {1 << 62, 0}, {0, -1 << 63}, make([]int, 9),
	} {
		if cell, ok := whole.Cell(index); ok || cell != 0 {
			t.Errorf("Cell(%v) = %d, %v", index, cell, ok)
		}
	}
}
