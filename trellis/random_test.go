package trellis_test

import (
	"fmt"
	"maps"
	"math/rand/v2"
	"slices"
	"testing"

	"trellis/api"
	"trellis/trellis"
)

// pair is a space and the model that it is held against, with how often each
// call answered each error.
type pair struct {
	t    *testing.T
	r    *rand.Rand
	m    *model
	s    *trellis.Space
	seen map[string]int
}

func (p *pair) numbers(count, from, to int) []int {
	list := make([]int, count)
	for i := range list {
		list[i] = from + p.r.IntN(to-from+1)
	}
	return list
}

// handle is most often one that is there.
func (p *pair) handle() int {
	there := slices.Sorted(maps.Keys(p.m.arrays))
	if len(there) == 0 || p.r.IntN(8) == 0 {
		return p.m.last + 1 - p.r.IntN(50)
	}
	return there[p.r.IntN(len(there))]
}

// shapeLike is most often a shape of the volume of the array h.
func (p *pair) shapeLike(h int) []int {
	a := p.m.arrays[h]
	if a == nil || p.r.IntN(8) == 0 {
		return p.numbers(p.r.IntN(6), 0, 4)
	}
	rest := len(a.cells)
	shape := []int{}
	for range p.r.IntN(4) {
		size := 1 + p.r.IntN(rest)
		for rest%size != 0 {
			size--
		}
		shape = append(shape, size)
		rest /= size
	}
	return append(shape, rest)
}

// shapeAbove is most often a shape that the array h can be stretched to.
func (p *pair) shapeAbove(h int) []int {
	a := p.m.arrays[h]
	if a == nil || p.r.IntN(8) == 0 {
		return p.numbers(p.r.IntN(6), 0, 4)
	}
	shape := p.numbers(p.r.IntN(2), 1, 3)
	for _, size := range a.shape {
		if size == 1 {
			size += p.r.IntN(3)
		}
		shape = append(shape, size)
	}
	return shape
}

func (p *pair) axes(h int) []int {
	a := p.m.arrays[h]
	if a == nil || p.r.IntN(8) == 0 {
		return p.numbers(p.r.IntN(6), -1, 4)
	}
	return p.r.Perm(len(a.shape))
}

func (p *pair) same(call string, args any, got, want [3]int) {
	p.t.Helper()
	if got != want { // the handle, the bool and the error
		p.t.Fatalf("%s(%v) = %v, want %v", call, args, got, want)
	}
	p.seen[fmt.Sprint(call, " ", want[2])]++
	if want[1] == 1 {
		p.seen[call+" true"]++
	}
}

func answer(h int, e api.Errno) [3]int { return [3]int{h, 0, int(e)} }

func answerBool(h int, ok bool, e api.Errno) [3]int {
	if ok {
		return [3]int{h, 1, int(e)}
	}
	return [3]int{h, 0, int(e)}
}

func (p *pair) step() {
	p.t.Helper()
	switch p.r.IntN(16) {
	case 0:
		kind, shape := p.r.IntN(8)%3, p.numbers(p.r.IntN(5), 1, 4)
		if p.r.IntN(8) == 0 {
			shape = append(shape, 0)
		}
		p.same("Make", []any{kind, shape}, answer(p.s.Make(kind, shape...)), answer(p.m.make(kind, shape)))
	case 1, 2:
		h := p.handle()
		p.same("Free", h, answer(0, p.s.Free(h)), answer(0, p.m.free(h)))
	case 3, 4:
		p.write()
	case 5, 6, 7:
		p.work()
	case 8:
		a, b := p.handle(), p.handle()
		got, e := p.s.Shared(a, b)
		want, wrong := p.m.shared(a, b)
		p.same("Shared", []int{a, b}, answerBool(0, got, e), answerBool(0, want, wrong))
	default:
		p.view()
	}
}

func (p *pair) write() {
	p.t.Helper()
	h, value := p.handle(), p.r.IntN(2000)-1000
	if p.r.IntN(3) == 0 {
		value = int(p.r.Uint64())
	}
	if p.r.IntN(3) == 0 {
		p.same("Fill", h, answer(0, p.s.Fill(h, value)), answer(0, p.m.fill(h, value)))
		return
	}
	index := p.numbers(p.r.IntN(5), -1, 3)
	if a := p.m.arrays[h]; a != nil && p.r.IntN(4) > 0 {
		index = p.numbers(len(a.shape), 0, 2)
	}
	p.same("Set", []any{h, index}, answer(0, p.s.Set(h, value, index...)), answer(0, p.m.set(h, value, index)))
}

// fitting is most often an array that can be stretched to the shape of the array h.
func (p *pair) fitting(h int) int {
	var fit []int
	for _, other := range slices.Sorted(maps.Keys(p.m.arrays)) {
		if a := p.m.arrays[h]; a != nil {
			if _, ok := p.m.over(p.m.arrays[other], a.shape); ok {
				fit = append(fit, other)
			}
		}
	}
	if len(fit) == 0 || p.r.IntN(8) == 0 {
		return p.handle()
	}
	return fit[p.r.IntN(len(fit))]
}

func (p *pair) work() {
	p.t.Helper()
	op, to := 1+p.r.IntN(5), p.handle()
	if p.r.IntN(8) == 0 {
		op = p.r.IntN(9) - 2
	}
	a, b := p.fitting(to), p.fitting(to)
	switch p.r.IntN(3) {
	case 0:
		p.same("Assign", []int{to, a}, answer(0, p.s.Assign(to, a)), answer(0, p.m.assign(to, a)))
	case 1:
		p.same("Work", []int{op, to, a, b}, answer(0, p.s.Work(op, to, a, b)), answer(0, p.m.work(op, to, a, b)))
	case 2:
		axis := p.r.IntN(7) - 1
		if a := p.m.arrays[to]; a != nil && len(a.shape) > 0 && p.r.IntN(4) > 0 {
			axis = p.r.IntN(len(a.shape))
		}
		p.same("Fold", []int{op, to, axis}, answer(p.s.Fold(op, to, axis)), answer(p.m.fold(op, to, axis)))
	}
}

func (p *pair) view() {
	p.t.Helper()
	h := p.handle()
	switch p.r.IntN(5) {
	case 0, 1:
		c := append(p.numbers(1, 0, 3), p.numbers(3, -3, 4)...)
		if a := p.m.arrays[h]; a != nil && len(a.shape) > 0 && p.r.IntN(4) > 0 {
			c[0] = p.r.IntN(len(a.shape))
			c[1] = p.r.IntN(a.shape[c[0]])
			c[2] = 1 + p.r.IntN(a.shape[c[0]])
		}
		p.same("Cut", append([]int{h}, c...), answer(p.s.Cut(h, c[0], c[1], c[2], c[3])), answer(p.m.cut(h, c[0], c[1], c[2], c[3])))
	case 2:
		axes := p.axes(h)
		p.same("Turn", []any{h, axes}, answer(p.s.Turn(h, axes...)), answer(p.m.turn(h, axes)))
	case 3:
		shape := p.shapeAbove(h)
		p.same("Stretch", []any{h, shape}, answer(p.s.Stretch(h, shape...)), answer(p.m.stretch(h, shape)))
	case 4:
		shape := p.shapeLike(h)
		p.same("Reshape", []any{h, shape}, answerBool(p.s.Reshape(h, shape...)), answerBool(p.m.reshape(h, shape)))
	}
}

func (p *pair) compare() {
	p.t.Helper()
	for h := max(1, p.m.last-60); h <= p.m.last; h++ {
		if a := p.m.arrays[h]; a != nil {
			wantValues(p.t, p.s, h, p.m.values(a)...)
			wantLook(p.t, p.s, h, a.kind, a.readOnly, a.shape...)
		} else {
			wantNoArray(p.t, p.s, h)
		}
	}
	for kind, store := range p.m.stores {
		used, top := 0, 0
		for i, cell := range store {
			if cell.buffer != 0 {
				used++
				top = i + 1
			}
		}
		wantStore(p.t, p.s, kind, len(store), used, top)
	}
}

func TestLikeThePlainModel(t *testing.T) {
	seen := map[string]int{}
	for seed := range uint64(40) {
		r := rand.New(rand.NewPCG(seed, 7))
		bytes, ints := 20+r.IntN(300), 20+r.IntN(300)
		p := &pair{t, r, newModel(bytes, ints), newSpace(t, bytes, ints), seen}
		for range 400 {
			p.step()
			p.compare()
		}
	}
	for _, answer := range []string{
		"Make 0", "Make 3", "Make 4", "Make 7", "Make 8", "Free 0", "Free 2", "Set 0", "Set 2", "Set 5", "Set 6",
		"Fill 0", "Fill 2", "Fill 6", "Shared 0", "Shared 2", "Cut 0", "Cut 2", "Cut 5", "Cut 7", "Turn 0", "Turn 2",
		"Turn 4", "Turn 7", "Stretch 0", "Stretch 2", "Stretch 4", "Stretch 7", "Reshape 0", "Reshape 2", "Reshape 4",
		"Reshape 7", "Reshape 8", "Reshape true", "Shared true", "Assign 0", "Assign 2", "Assign 4", "Assign 6",
		"Work 0", "Work 1", "Work 2", "Work 4", "Work 6", "Fold 0", "Fold 1", "Fold 2", "Fold 5", "Fold 7", "Fold 8",
	} {
		if seen[answer] < 5 {
			t.Errorf("%s came only %d times", answer, seen[answer])
		}
	}
}
