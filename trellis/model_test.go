package trellis_test

import (
	"math/rand/v2"
	"testing"

	"trellis/api"
	"trellis/trellis"
)

// model is a space told as plainly as can be: each cell knows its owner.
type model struct {
	owners map[int][]int // by kind: the handle that each cell belongs to, or 0
	arrays map[int]*plain
	last   int
}

type plain struct {
	kind   int
	shape  []int
	values []int
}

func newModel(bytes, ints int) *model {
	return &model{
		owners: map[int][]int{api.Byte: make([]int, bytes), api.Int: make([]int, ints)},
		arrays: map[int]*plain{},
	}
}

func (m *model) place(kind, volume int) (int, bool) {
	row := 0
	for i, owner := range m.owners[kind] {
		row++
		if owner != 0 {
			row = 0
		}
		if row == volume {
			return i + 1 - volume, true
		}
	}
	return 0, false
}

func (m *model) make(kind int, shape []int) (int, api.Errno) {
	volume := 1
	for _, size := range shape {
		volume *= size
	}
	if len(m.arrays) == 40 {
		return 0, api.ErrMany
	}
	start, ok := m.place(kind, volume)
	if !ok {
		return 0, api.ErrFull
	}
	m.last++
	for i := range volume {
		m.owners[kind][start+i] = m.last
	}
	m.arrays[m.last] = &plain{kind, shape, make([]int, volume)}
	return m.last, api.OK
}

func (m *model) free(h int) api.Errno {
	if m.arrays[h] == nil {
		return api.ErrHandle
	}
	delete(m.arrays, h)
	for _, owners := range m.owners {
		for i := range owners {
			if owners[i] == h {
				owners[i] = 0
			}
		}
	}
	return api.OK
}

func (m *model) set(h, value int, index []int) api.Errno {
	a := m.arrays[h]
	if a == nil {
		return api.ErrHandle
	}
	if len(index) != len(a.shape) {
		return api.ErrRange
	}
	at := 0
	for axis, i := range index {
		if i < 0 || i >= a.shape[axis] {
			return api.ErrRange
		}
		at = at*a.shape[axis] + i
	}
	a.values[at] = a.taken(value)
	return api.OK
}

func (m *model) fill(h, value int) api.Errno {
	a := m.arrays[h]
	if a == nil {
		return api.ErrHandle
	}
	for i := range a.values {
		a.values[i] = a.taken(value)
	}
	return api.OK
}

func (a *plain) taken(value int) int {
	if a.kind == api.Byte {
		return value & 255
	}
	return value
}

func (m *model) compare(t *testing.T, s *trellis.Space) {
	t.Helper()
	for h := 1; h <= m.last; h++ {
		if a := m.arrays[h]; a != nil {
			wantValues(t, s, h, a.values...)
		} else {
			wantNoArray(t, s, h)
		}
	}
	for kind, owners := range m.owners {
		used, top := 0, 0
		for i, owner := range owners {
			if owner != 0 {
				used++
				top = i + 1
			}
		}
		wantStore(t, s, kind, len(owners), used, top)
	}
}

func numbers(r *rand.Rand, count, from, to int) []int {
	list := make([]int, count)
	for i := range list {
		list[i] = from + r.IntN(to-from+1)
	}
	return list
}

func step(t *testing.T, r *rand.Rand, m *model, s *trellis.Space) {
	t.Helper()
	h, value := m.last+1-r.IntN(50), r.IntN(2000)-1000
	switch r.IntN(5) {
	case 0, 1:
		kind, shape := 1+r.IntN(2), numbers(r, r.IntN(5), 1, 3)
		want, wrong := m.make(kind, shape)
		if got, e := s.Make(kind, shape...); got != want || e != wrong {
			t.Fatalf("Make(%d, %v) = %d, %d, want %d, %d", kind, shape, got, e, want, wrong)
		}
	case 2:
		if want, e := m.free(h), s.Free(h); e != want {
			t.Fatalf("Free(%d) = %d, want %d", h, e, want)
		}
	case 3:
		index := numbers(r, r.IntN(5), -1, 3)
		if a := m.arrays[h]; a != nil && r.IntN(4) > 0 {
			index = numbers(r, len(a.shape), 0, 2)
		}
		if want, e := m.set(h, value, index), s.Set(h, value, index...); e != want {
			t.Fatalf("Set(%d, %d, %v) = %d, want %d", h, value, index, e, want)
		}
	case 4:
		if want, e := m.fill(h, value), s.Fill(h, value); e != want {
			t.Fatalf("Fill(%d, %d) = %d, want %d", h, value, e, want)
		}
	}
}

func TestLikeThePlainModel(t *testing.T) {
	for seed := range uint64(20) {
		r := rand.New(rand.NewPCG(seed, 7))
		bytes, ints := 50+r.IntN(500), 50+r.IntN(500)
		m, s := newModel(bytes, ints), newSpace(t, bytes, ints)
		for range 300 {
			step(t, r, m, s)
			m.compare(t, s)
		}
	}
}
