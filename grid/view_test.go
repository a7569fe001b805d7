package grid

import (
	"math/big"
	"math/rand/v2"
	"slices"
	"testing"
)

const (
	most  = 1<<63 - 1
	least = -1 << 63
)

// mayCut tells by numbers that do not wrap round whether an axis may be cut so.
func mayCut(size, start, count, step int) bool {
	end := new(big.Int).Mul(big.NewInt(int64(step)), new(big.Int).Sub(big.NewInt(int64(count)), big.NewInt(1)))
	end.Add(end, big.NewInt(int64(start)))
	within := end.Sign() >= 0 && end.Cmp(big.NewInt(int64(size))) < 0
	return count >= 1 && step != 0 && start >= 0 && start < size && within
}

func TestCutAtAllNumbers(t *testing.T) {
	edges := []int{least, least + 1, -1 << 62, -1 << 32, -61, most, most - 1, 1 << 62, 1<<62 + 1, 1 << 61, 1 << 32, 61}
	for i := -7; i <= 7; i++ {
		edges = append(edges, i)
	}
	for _, size := range []int{1, 2, 5} {
		whole := Whole(shapeOf(t, size), 3)
		for _, start := range edges {
			for _, count := range edges {
				for _, step := range edges {
					cut, ok := whole.Cut(0, start, count, step)
					if ok != mayCut(size, start, count, step) || (!ok && cut != (Grid{})) {
						t.Fatalf("%d: Cut(0, %d, %d, %d) = %v, %v", size, start, count, step, cut, ok)
					}
					if !ok {
						continue
					}
					for i, cell := range cut.Cells() {
						if cell != 3+start+i*step {
							t.Fatalf("%d: Cut(0, %d, %d, %d): %v", size, start, count, step, cut.Cells())
						}
					}
				}
			}
		}
	}
}

func TestCutOneOfManyAxes(t *testing.T) {
	whole := Whole(shapeOf(t, 2, 3, 4), 0)
	cut, ok := whole.Cut(1, 2, 2, -2)
	if !ok || cut.Shape != shapeOf(t, 2, 2, 4) || cut.Steps != (Steps{12, -8, 1}) || cut.First != 8 {
		t.Errorf("Cut = %v, %v", cut, ok)
	}
	for _, axis := range []int{-1, 3, 4, 5, most, least} {
		if cut, ok := whole.Cut(axis, 0, 1, 1); ok || cut != (Grid{}) {
			t.Errorf("Cut(%d, ..) = %v, %v", axis, cut, ok)
		}
	}
	for axes, shape := range []Shape{shapeOf(t), shapeOf(t, 1), shapeOf(t, 1, 1), shapeOf(t, 1, 1, 1), shapeOf(t, 1, 1, 1, 1)} {
		if _, ok := Whole(shape, 0).Cut(axes, 0, 1, 1); ok {
			t.Errorf("cut along axis %d of %d", axes, axes)
		}
	}
}

// The step of an axis of size 1 is of no matter, so it does not tell grids apart.
func TestStepsOfAxesOfSizeOne(t *testing.T) {
	whole := Whole(shapeOf(t, 1, 5, 1), 0)
	if whole.Steps != (Steps{0, 1, 0}) {
		t.Errorf("Steps = %v", whole.Steps)
	}
	one, _ := whole.Cut(1, 2, 1, 1)
	for _, step := range []int{-1, 7, most, least} {
		if other, ok := whole.Cut(1, 2, 1, step); !ok || other != one {
			t.Errorf("Cut by %d = %v, %v, want %v", step, other, ok, one)
		}
	}
}

func TestTurn(t *testing.T) {
	whole := Whole(shapeOf(t, 2, 3, 4), 5)
	turned, ok := whole.Turn([]int{2, 0, 1})
	if !ok || turned.Shape != shapeOf(t, 4, 2, 3) || turned.Steps != (Steps{1, 12, 4}) || turned.First != 5 {
		t.Errorf("Turn = %v, %v", turned, ok)
	}
	if back, ok := turned.Turn([]int{1, 2, 0}); !ok || back != whole {
		t.Errorf("back: %v, %v", back, ok)
	}
	if none, ok := Whole(shapeOf(t), 5).Turn(nil); !ok || none != Whole(shapeOf(t), 5) {
		t.Errorf("without axes: %v, %v", none, ok)
	}
	for _, axes := range [][]int{
		nil, {0}, {0, 1}, {0, 1, 1}, {0, 0, 0}, {0, 1, 3}, {-1, 0, 1}, {0, 1, 2, 3}, {0, 1, 2, 0}, {most, 0, 1},
		{least, 0, 1}, make([]int, 100),
	} {
		if turned, ok := whole.Turn(axes); ok || turned != (Grid{}) {
			t.Errorf("Turn(%v) = %v, %v", axes, turned, ok)
		}
	}
}

func TestStretch(t *testing.T) {
	for _, c := range []struct{ from, to, steps []int }{
		{nil, nil, nil}, {nil, []int{3}, []int{0}}, {nil, []int{2, 1, 4, 5}, []int{0, 0, 0, 0}},
		{[]int{3}, []int{3}, []int{1}}, {[]int{3}, []int{2, 3}, []int{0, 1}}, {[]int{1}, []int{4}, []int{0}},
		{[]int{3, 1}, []int{2, 3, 2}, []int{0, 1, 0}}, {[]int{1, 3}, []int{4, 3}, []int{0, 1}},
		{[]int{2, 1, 3}, []int{5, 2, 4, 3}, []int{0, 3, 0, 1}}, {[]int{1, 1}, []int{1, 1, 1}, []int{0, 0, 0}},
	} {
		got, ok := Whole(shapeOf(t, c.from...), 9).Stretch(shapeOf(t, c.to...))
		if !ok || got.Shape != shapeOf(t, c.to...) || !slices.Equal(got.Steps[:len(c.to)], c.steps) || got.First != 9 {
			t.Errorf("%v to %v: %v, %v", c.from, c.to, got, ok)
		}
	}
	for _, c := range []struct{ from, to []int }{
		{[]int{1}, nil}, {[]int{2}, nil}, {[]int{2}, []int{3}}, {[]int{2}, []int{1}}, {[]int{3}, []int{3, 1}},
		{[]int{3}, []int{3, 2}}, {[]int{2, 3}, []int{3}}, {[]int{1, 3}, []int{3}}, {[]int{2, 3}, []int{3, 3}},
		{[]int{1, 1, 1, 1}, []int{1, 1, 1}},
	} {
		if got, ok := Whole(shapeOf(t, c.from...), 9).Stretch(shapeOf(t, c.to...)); ok || got != (Grid{}) {
			t.Errorf("%v to %v: %v, %v", c.from, c.to, got, ok)
		}
	}
}

// shapesOf tells all shapes of a volume.
func shapesOf(volume int) []Shape {
	var found []Shape
	var grow func(sizes []int, rest int)
	grow = func(sizes []int, rest int) {
		if shape, ok := ShapeOf(sizes); ok && rest == 1 {
			found = append(found, shape)
		}
		if len(sizes) == 4 {
			return
		}
		for size := 1; size <= rest; size++ {
			if rest%size == 0 {
				grow(append(slices.Clone(sizes), size), rest/size)
			}
		}
	}
	grow(nil, volume)
	return found
}

// layable tells, cell by cell, whether a shape has steps for these cells.
func layable(cells []int, shape Shape) bool {
	numbers := Grid{Shape: shape, First: cells[0]}
	next := 1
	for axis := shape.Axes - 1; axis >= 0; axis-- {
		if shape.Sizes[axis] > 1 {
			numbers.Steps[axis] = cells[next] - cells[0]
		}
		next *= shape.Sizes[axis]
	}
	return slices.Equal(numbers.Cells(), cells)
}

// The steps are often those that make two axes one, so that both answers come.
func anyGrid(r *rand.Rand, shape Shape) Grid {
	g := Grid{Shape: shape, First: r.IntN(5)}
	step := r.IntN(7) - 3
	for axis := shape.Axes - 1; axis >= 0; axis-- {
		g.put(axis, shape.Sizes[axis], step)
		step *= shape.Sizes[axis]
		if r.IntN(3) == 0 {
			step = r.IntN(25) - 12
		}
	}
	return g
}

func TestReshapeIsExact(t *testing.T) {
	r := rand.New(rand.NewPCG(1, 2))
	views, others := 0, 0
	for _, volume := range []int{1, 2, 4, 6, 8, 12, 16, 24, 36, 60} {
		shapes := shapesOf(volume)
		for range 3000 {
			g := anyGrid(r, shapes[r.IntN(len(shapes))])
			shape := shapes[r.IntN(len(shapes))]
			got, ok := g.Reshape(shape)
			if ok != layable(g.Cells(), shape) {
				t.Fatalf("%v to %v: %v, %v", g, shape, got, ok)
			}
			if !ok {
				others++
				if got != (Grid{}) {
					t.Fatalf("%v to %v: %v, though there is none", g, shape, got)
				}
				continue
			}
			views++
			if got.Shape != shape || !slices.Equal(got.Cells(), g.Cells()) {
				t.Fatalf("%v to %v: %v", g, shape, got)
			}
			if back, ok := got.Reshape(g.Shape); !ok || back != g {
				t.Fatalf("%v to %v and back: %v, %v", g, shape, back, ok)
			}
		}
	}
	if views < 1000 || others < 1000 {
		t.Errorf("%d views, %d others: too few of one of them", views, others)
	}
}

func TestMeets(t *testing.T) {
	whole := Whole(shapeOf(t, 3, 4), 10)
	even, _ := whole.Cut(1, 0, 2, 2)
	odd, _ := whole.Cut(1, 3, 2, -2)
	row, _ := whole.Cut(0, 1, 1, 1)
	far := Whole(shapeOf(t, 3, 4), 22)
	near := Whole(shapeOf(t, 3, 4), 21)
	point := Whole(shapeOf(t), 13)
	for _, c := range []struct {
		a, b Grid
		want bool
	}{
		{whole, whole, true}, {whole, even, true}, {even, odd, false}, {row, odd, true}, {row, even, true},
		{whole, far, false}, {whole, near, true}, {near, even, false}, {point, odd, true}, {point, even, false},
	} {
		if c.a.Meets(c.b) != c.want || c.b.Meets(c.a) != c.want {
			t.Errorf("%v, %v: not %v", c.a, c.b, c.want)
		}
	}
}

func TestLayers(t *testing.T) {
	whole := Whole(shapeOf(t, 2, 3, 4), 5)
	for axis, c := range []struct {
		shape Shape
		steps Steps
		step  int
	}{
		{shapeOf(t, 3, 4), Steps{4, 1}, 12},
		{shapeOf(t, 2, 4), Steps{12, 1}, 4},
		{shapeOf(t, 2, 3), Steps{12, 4}, 1},
	} {
		layers, ok := whole.Layers(axis)
		if !ok || len(layers) != whole.Shape.Sizes[axis] {
			t.Fatalf("Layers(%d) = %v, %v", axis, layers, ok)
		}
		for i, layer := range layers {
			if layer != (Grid{Shape: c.shape, First: 5 + i*c.step, Steps: c.steps}) {
				t.Errorf("Layers(%d)[%d] = %v", axis, i, layer)
			}
		}
	}
	for _, axis := range []int{-1, 3, 4, most, least} {
		if layers, ok := whole.Layers(axis); ok || layers != nil {
			t.Errorf("Layers(%d) = %v, %v", axis, layers, ok)
		}
	}
}

func TestLayersOfOneAxis(t *testing.T) {
	back, _ := Whole(shapeOf(t, 3), 5).Cut(0, 2, 3, -1)
	layers, ok := back.Layers(0)
	if !ok || !slices.Equal(layers, []Grid{{First: 7}, {First: 6}, {First: 5}}) {
		t.Errorf("Layers = %v, %v", layers, ok)
	}
	if layers, ok := layers[0].Layers(0); ok || layers != nil {
		t.Errorf("Layers without axes = %v, %v", layers, ok)
	}
}
