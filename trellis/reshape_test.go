package trellis_test

import (
	"slices"
	"testing"

	"trellis/api"
	"trellis/trellis"
)

func TestP6Reshape(t *testing.T) { // example 3
	s := newSpace(t, 100, 10)
	wantMade(t, s, 1, api.Int, 2, 3)
	count(t, s, 1, 1)
	wantNew(t, 2)(s.Turn(1, 1, 0))
	wantNew(t, 3)(s.Cut(1, 1, 2, 3, -1))
	wantReshaped(t, 4, true)(s.Reshape(1, 6))
	wantLook(t, s, 4, api.Int, false, 6)
	wantSame(t, s, 4, 1)
	wantNotReshaped(t, api.ErrFull)(s.Reshape(2, 6))
	wantNotReshaped(t, api.ErrFull)(s.Reshape(3, 3, 2))
	wantReshaped(t, 5, true)(s.Reshape(3, 2, 1, 3))
	wantStore(t, s, api.Int, 10, 6, 6)
}

func TestP6Copy(t *testing.T) {
	s := newSpace(t, 12, 12)
	for i, kind := range []int{api.Byte, api.Int} {
		h := 3*i + 1
		wantMade(t, s, h, kind, 2, 3)
		count(t, s, h, -2)
		was, _ := s.Values(h)
		wantNew(t, h+1)(s.Turn(h, 1, 0))
		wantReshaped(t, h+2, false)(s.Reshape(h+1, 6))
		wantLook(t, s, h+2, kind, false, 6)
		want := []int{was[0], was[3], was[1], was[4], was[2], was[5]}
		wantValues(t, s, h+2, want...)
		wantStore(t, s, kind, 12, 12, 12)
		wantShared(t, s, h+2, h, false)
		wantShared(t, s, h+2, h+1, false)
		wantDone(t, s.Fill(h, 9))
		wantValues(t, s, h+2, want...)
		count(t, s, h+2, 20)
		wantValues(t, s, h, 9, 9, 9, 9, 9, 9)
		wantDone(t, s.Free(h))
		wantDone(t, s.Free(h+1))
		wantValues(t, s, h+2, 20, 21, 22, 23, 24, 25)
		wantStore(t, s, kind, 12, 6, 12)
	}
}

// reshapes: what is done with an array of 2 3 4, and whether a shape is then a view.
type reshapes struct {
	name string
	view func(s *trellis.Space, h int) (int, api.Errno)
	to   []int
	want bool
}

func turned(axes ...int) func(*trellis.Space, int) (int, api.Errno) {
	return func(s *trellis.Space, h int) (int, api.Errno) { return s.Turn(h, axes...) }
}

func cut(axis, start, count, step int) func(*trellis.Space, int) (int, api.Errno) {
	return func(s *trellis.Space, h int) (int, api.Errno) { return s.Cut(h, axis, start, count, step) }
}

func stretched(shape ...int) func(*trellis.Space, int) (int, api.Errno) {
	return func(s *trellis.Space, h int) (int, api.Errno) {
		one, e := s.Cut(h, 1, 1, 1, 1)
		if e != api.OK {
			return 0, e
		}
		return s.Stretch(one, shape...)
	}
}

func TestP6JustAViewAndJustNone(t *testing.T) {
	for _, c := range []reshapes{
		{"itself", turned(0, 1, 2), []int{24}, true},
		{"itself", turned(0, 1, 2), []int{2, 3, 4}, true},
		{"itself", turned(0, 1, 2), []int{4, 3, 2}, true},
		{"itself", turned(0, 1, 2), []int{1, 24, 1, 1}, true},
		{"last two swapped", turned(0, 2, 1), []int{2, 4, 3}, true},
		{"last two swapped", turned(0, 2, 1), []int{2, 2, 2, 3}, true},
		{"last two swapped", turned(0, 2, 1), []int{2, 12}, false},
		{"last two swapped", turned(0, 2, 1), []int{8, 3}, false},
		{"first goes last", turned(1, 2, 0), []int{12, 2}, true},
		{"first goes last", turned(1, 2, 0), []int{2, 6, 2}, true},
		{"first goes last", turned(1, 2, 0), []int{2, 2, 3, 2}, true},
		{"first goes last", turned(1, 2, 0), []int{24}, false},
		{"first goes last", turned(1, 2, 0), []int{3, 8}, false},
		{"all swapped", turned(2, 1, 0), []int{4, 3, 1, 2}, true},
		{"all swapped", turned(2, 1, 0), []int{2, 2, 3, 2}, true},
		{"all swapped", turned(2, 1, 0), []int{12, 2}, false},
		{"all swapped", turned(2, 1, 0), []int{4, 6}, false},
		{"rows left out", cut(1, 0, 2, 1), []int{2, 8}, true},
		{"rows left out", cut(1, 0, 2, 1), []int{2, 4, 2}, true},
		{"rows left out", cut(1, 0, 2, 1), []int{16}, false},
		{"rows left out", cut(1, 0, 2, 1), []int{4, 4}, false},
		{"every other", cut(2, 0, 2, 2), []int{12}, true},
		{"every other", cut(2, 1, 2, 2), []int{12}, true},
		{"every other, back", cut(2, 3, 2, -2), []int{12}, false},
		{"every other, back", cut(2, 3, 2, -2), []int{6, 2}, true},
		{"half the columns", cut(2, 0, 2, 1), []int{6, 2}, true},
		{"half the columns", cut(2, 0, 2, 1), []int{12}, false},
		{"first axis back", cut(0, 1, 2, -1), []int{2, 12}, true},
		{"first axis back", cut(0, 1, 2, -1), []int{24}, false},
		{"one plane", cut(0, 1, 1, -7), []int{12}, true},
		{"one row a plane", cut(1, 2, 1, 5), []int{2, 2, 2}, true},
		{"one row a plane", cut(1, 2, 1, 5), []int{8}, false},
		{"one column", cut(2, 3, 1, 1), []int{6}, true},
		{"row stretched", stretched(2, 3, 4), []int{2, 3, 2, 2}, true},
		{"row stretched", stretched(2, 3, 4), []int{6, 4}, false},
		{"row stretched", stretched(2, 3, 4), []int{2, 12}, false},
		{"stretched in front", stretched(3, 2, 1, 4), []int{3, 2, 4}, true},
		{"stretched in front", stretched(3, 2, 1, 4), []int{6, 4}, false},
		{"stretched by ones", stretched(1, 2, 1, 4), []int{2, 2, 2}, true},
	} {
		s := newSpace(t, 0, 100)
		wantMade(t, s, 1, api.Int, 2, 3, 4)
		count(t, s, 1, 0)
		h, e := c.view(s, 1)
		wantDone(t, e)
		was, _ := s.Values(h)
		made, isView, e := s.Reshape(h, c.to...)
		if made != h+1 || isView != c.want || e != api.OK {
			t.Errorf("%s to %v: %d, %v, %d, want %v", c.name, c.to, made, isView, e, c.want)
			continue
		}
		from, _ := s.Look(h)
		wantLook(t, s, made, api.Int, c.want && from.ReadOnly, c.to...)
		wantValues(t, s, made, was...)
		wantShared(t, s, made, 1, c.want)
		wantDone(t, s.Fill(1, 77))
		if now, _ := s.Values(made); slices.Equal(now, was) == c.want {
			t.Errorf("%s to %v: %v", c.name, c.to, now)
		}
	}
}

func TestP6OneCell(t *testing.T) {
	s := newSpace(t, 1, 0)
	wantMade(t, s, 1, api.Byte)
	wantReshaped(t, 2, true)(s.Reshape(1, 1, 1, 1, 1))
	wantReshaped(t, 3, true)(s.Reshape(2))
	wantReshaped(t, 4, true)(s.Reshape(1))
	wantLook(t, s, 2, api.Byte, false, 1, 1, 1, 1)
	wantLook(t, s, 3, api.Byte, false)
	wantSame(t, s, 1, 3)
	wantNew(t, 5)(s.Stretch(1, 2, 3))
	wantReshaped(t, 6, true)(s.Reshape(5, 6))
	wantReshaped(t, 7, true)(s.Reshape(6, 3, 2))
	wantReadOnly(t, s, 7)
	wantStore(t, s, api.Byte, 1, 1, 1)
}

func TestP6OneCellCutOut(t *testing.T) {
	s := newSpace(t, 0, 60)
	wantMade(t, s, 1, api.Int, 60)
	count(t, s, 1, 100)
	wantNew(t, 2)(s.Cut(1, 0, 59, 1, least))
	wantReshaped(t, 3, true)(s.Reshape(2))
	wantReshaped(t, 4, true)(s.Reshape(2, 1, 1))
	wantDone(t, s.Set(3, 5))
	wantValues(t, s, 4, 5)
}

func TestP6ReshapeRefuses(t *testing.T) {
	s := newSpace(t, 0, 10)
	wantMade(t, s, 1, api.Int, 6)
	for _, shape := range [][]int{
		nil, {5}, {7}, {2, 2}, {2, 4}, {6, 0}, {-2, -3}, {-1, -6}, {1, 1, 1, 1, 6}, {6, 1, 1, 1, 1}, {2, 3, 1 << 62},
		{61}, {most}, {least}, {1 << 32, 1 << 32}, {1 << 63 / 2, 2, 6}, make([]int, 1000),
	} {
		wantNotReshaped(t, api.ErrShape)(s.Reshape(1, shape...))
	}
	wantMade(t, s, 2, api.Int, 2, 2)
	wantNotReshaped(t, api.ErrShape)(s.Reshape(2))
	wantReshaped(t, 3, true)(s.Reshape(1, 3, 1, 2))
}

// An axis of 120 may not be, though its cells would be a view.
func TestP6SizesAboveTheLimit(t *testing.T) {
	s := newSpace(t, 0, 3600)
	wantMade(t, s, 1, api.Int, 60, 60)
	wantNotReshaped(t, api.ErrShape)(s.Reshape(1, 120, 30))
	wantReshaped(t, 2, true)(s.Reshape(1, 60, 2, 30))
	wantReshaped(t, 3, true)(s.Reshape(2, 4, 15, 6, 10))
	wantSame(t, s, 1, 3)
}

func TestP14ReshapeThereAndBack(t *testing.T) {
	s := newSpace(t, 0, 100)
	wantMade(t, s, 1, api.Int, 4, 3, 5)
	wantNew(t, 2)(s.Cut(1, 0, 3, 4, -1))
	wantNew(t, 3)(s.Turn(2, 1, 2, 0))
	wantReshaped(t, 4, true)(s.Reshape(3, 15, 2, 2))
	wantReshaped(t, 5, true)(s.Reshape(4, 3, 5, 4))
	wantSame(t, s, 3, 5)
	wantReshaped(t, 6, true)(s.Reshape(4, 5, 3, 1, 4))
	wantReshaped(t, 7, true)(s.Reshape(6, 3, 5, 4))
	wantSame(t, s, 7, 3)
	wantNew(t, 8)(s.Turn(7, 2, 0, 1))
	wantNew(t, 9)(s.Cut(8, 0, 3, 4, -1))
	wantSame(t, s, 9, 1)
}
