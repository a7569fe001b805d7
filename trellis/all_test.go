package trellis_test

import (
	"testing"

	"trellis/api"
	"trellis/trellis"
)

func TestExamples(t *testing.T) { // 1 to 4, and 6
	s := newSpace(t, 100, 10)
	wantMade(t, s, 1, api.Int, 2, 3)
	wantDone(t, s.Set(1, 7, 1, 2))
	wantValues(t, s, 1, 0, 0, 0, 0, 0, 7)
	wantNew(t, 2)(s.Turn(1, 1, 0))
	wantLook(t, s, 2, api.Int, false, 3, 2)
	wantValues(t, s, 2, 0, 0, 0, 0, 0, 7)
	wantDone(t, s.Set(2, 5, 0, 1))
	wantValues(t, s, 1, 0, 0, 0, 5, 0, 7)
	wantShared(t, s, 1, 2, true)

	wantNew(t, 3)(s.Cut(1, 1, 2, 3, -1))
	wantValues(t, s, 3, 0, 0, 0, 7, 0, 5)
	wantNone(t, api.ErrRange)(s.Cut(1, 1, 2, 1, 0))
	wantNone(t, api.ErrRange)(s.Cut(1, 0, 0, 2, 2))

	wantReshaped(t, 4, true)(s.Reshape(1, 6))
	wantNotReshaped(t, api.ErrFull)(s.Reshape(2, 6))
	wantNotReshaped(t, api.ErrFull)(s.Reshape(3, 3, 2))

	wantMade(t, s, 5, api.Byte, 3)
	wantDone(t, s.Set(5, 300, 0))
	if v, e := s.Get(5, 0); v != 44 || e != api.OK {
		t.Errorf("Get = %d, %d", v, e)
	}
	wantNew(t, 6)(s.Stretch(5, 2, 3))
	wantReadOnly(t, s, 6)
	wantDone(t, s.Assign(1, 6))
	wantValues(t, s, 1, 44, 0, 0, 44, 0, 0)
	wantValues(t, s, 4, 44, 0, 0, 44, 0, 0)
	wantDone(t, s.Work(api.Add, 5, 5, 5))
	if v, e := s.Get(5, 0); v != 88 || e != api.OK {
		t.Errorf("Get = %d, %d", v, e)
	}

	wantNew(t, 7)(s.Fold(api.Add, 1, 0))
	wantValues(t, s, 7, 88, 0, 0)
	wantNone(t, api.ErrFull)(s.Fold(api.Max, 1, 1))
	wantDone(t, s.Free(7))
	wantNew(t, 8)(s.Fold(api.Max, 1, 1))
	wantValues(t, s, 8, 44, 44)
	wantNone(t, api.ErrArg)(s.Fold(api.Sub, 1, 0))
	wantFreed(t, s, 8)
}

// wantFreed frees all arrays up to a handle, and looks that nothing is left (P13).
func wantFreed(t *testing.T, s *trellis.Space, last int) {
	t.Helper()
	for h := 1; h <= last; h++ {
		if e := s.Free(h); e != api.OK && e != api.ErrHandle {
			t.Fatalf("Free(%d) = %d", h, e)
		}
	}
	for _, kind := range []int{api.Byte, api.Int} {
		state, e := s.Store(kind)
		if state.Used != 0 || state.Top != 0 || e != api.OK {
			t.Fatalf("Store(%d) = %+v, %d", kind, state, e)
		}
	}
}

// writes: all ways to write into all cells of an array, or one of them. Array 1
// is one cell of Bytes, which is 9, and array 2 is one of Ints, which is -3.
var writes = map[string]func(s *trellis.Space, h int) api.Errno{
	"Set": func(s *trellis.Space, h int) api.Errno {
		look, _ := s.Look(h)
		return s.Set(h, 1000, make([]int, len(look.Shape))...)
	},
	"Fill":         func(s *trellis.Space, h int) api.Errno { return s.Fill(h, -2) },
	"Assign":       func(s *trellis.Space, h int) api.Errno { return s.Assign(h, 1) },
	"Assign other": func(s *trellis.Space, h int) api.Errno { return s.Assign(h, 2) },
	"Work":         func(s *trellis.Space, h int) api.Errno { return s.Work(api.Sub, h, h, 1) },
	"Work other":   func(s *trellis.Space, h int) api.Errno { return s.Work(api.Mul, h, 2, h) },
	"Work itself":  func(s *trellis.Space, h int) api.Errno { return s.Work(api.Mul, h, h, h) },
}

// overlapping makes, beside others, an array 3 of 3 4, and views of it.
func overlapping(t *testing.T, kind int) *trellis.Space {
	t.Helper()
	s := newSpace(t, 40, 40)
	wantMade(t, s, 1, api.Byte)
	wantMade(t, s, 2, api.Int)
	wantMade(t, s, 3, kind, 3, 4)
	wantNew(t, 4)(s.Turn(3, 1, 0))
	wantNew(t, 5)(s.Cut(4, 0, 3, 2, -3))
	wantReshaped(t, 6, true)(s.Reshape(3, 12))
	wantNew(t, 7)(s.Cut(6, 0, 11, 12, -1))
	wantNew(t, 8)(s.Cut(7, 0, 0, 6, 2))
	wantNew(t, 9)(s.Cut(6, 0, 5, 1, 1))
	wantNew(t, 10)(s.Stretch(5, 2, 2, 3))
	wantNew(t, 11)(s.Stretch(9, 2, 2))
	wantMade(t, s, 12, api.Byte, 2)
	wantMade(t, s, 13, api.Int, 2)
	put(t, s, 1, 9)
	put(t, s, 2, -3)
	put(t, s, 3, 0, 10, 20, 30, 40, 50, 60, 70, 80, 90, 100, 110)
	put(t, s, 12, 100, 101)
	put(t, s, 13, 102, 103)
	return s
}

// meant tells which values of array 3 the views of overlapping have.
var meant = map[int][]int{
	3:  {0, 1, 2, 3, 4, 5, 6, 7, 8, 9, 10, 11},
	4:  {0, 4, 8, 1, 5, 9, 2, 6, 10, 3, 7, 11},
	5:  {3, 7, 11, 0, 4, 8},
	6:  {0, 1, 2, 3, 4, 5, 6, 7, 8, 9, 10, 11},
	7:  {11, 10, 9, 8, 7, 6, 5, 4, 3, 2, 1, 0},
	8:  {11, 9, 7, 5, 3, 1},
	9:  {5},
	10: {3, 7, 11, 0, 4, 8, 3, 7, 11, 0, 4, 8},
	11: {5, 5, 5, 5},
}

func TestP12Through(t *testing.T) {
	for name, write := range writes {
		for _, kind := range []int{api.Byte, api.Int} {
			for through := 3; through <= 9; through++ {
				s := overlapping(t, kind)
				want, _ := s.Values(3)
				wantDone(t, write(s, through))
				written, _ := s.Values(through)
				for n, at := range meant[through] {
					want[at] = written[n]
				}
				t.Log(name, kind, through)
				wantViews(t, s, want)
				wantFreed(t, s, 13)
			}
		}
	}
}

func wantViews(t *testing.T, s *trellis.Space, want []int) {
	t.Helper()
	for h, places := range meant {
		var values []int
		for _, at := range places {
			values = append(values, want[at])
		}
		wantValues(t, s, h, values...)
	}
	wantValues(t, s, 1, 9)
	wantValues(t, s, 2, -3)
	wantValues(t, s, 12, 100, 101)
	wantValues(t, s, 13, 102, 103)
}

// Writing through one view out of another one that has some of its cells.
func TestP12Between(t *testing.T) {
	s := overlapping(t, api.Int)
	wantDone(t, s.Assign(8, 9)) // 50 into each second one
	wantViews(t, s, []int{0, 50, 20, 50, 40, 50, 60, 50, 80, 50, 100, 50})
	wantDone(t, s.Assign(4, 9))
	wantViews(t, s, []int{50, 50, 50, 50, 50, 50, 50, 50, 50, 50, 50, 50})
	put(t, s, 6, 0, 1, 2, 3, 4, 5, 6, 7, 8, 9, 10, 11)
	wantDone(t, s.Work(api.Sub, 7, 6, 7)) // 6 is 0 to 11, 7 is 11 to 0
	wantViews(t, s, []int{11, 9, 7, 5, 3, 1, -1, -3, -5, -7, -9, -11})
	wantNew(t, 14)(s.Cut(3, 0, 1, 2, 1))
	wantNew(t, 15)(s.Cut(3, 0, 0, 2, 1))
	wantDone(t, s.Work(api.Add, 14, 15, 14))
	wantViews(t, s, []int{11, 9, 7, 5, 14, 10, 6, 2, -2, -6, -10, -14})
	wantDone(t, s.Work(api.Mul, 15, 1, 2))
	wantViews(t, s, []int{-27, -27, -27, -27, -27, -27, -27, -27, -2, -6, -10, -14})
}

func TestP13FoldsAreGivenBack(t *testing.T) {
	for _, kind := range []int{api.Byte, api.Int} {
		s := newSpace(t, 40, 40)
		wantMade(t, s, 1, kind, 2, 3, 4)
		count(t, s, 1, 1)
		wantNew(t, 2)(s.Fold(api.Add, 1, 2))
		wantNew(t, 3)(s.Turn(2, 1, 0))
		wantNew(t, 4)(s.Fold(api.Max, 3, 0))
		wantStore(t, s, kind, 40, 32, 32)
		wantDone(t, s.Free(2))
		wantStore(t, s, kind, 40, 32, 32) // 3 has cells of it
		wantDone(t, s.Free(1))
		wantStore(t, s, kind, 40, 8, 32)
		wantNotMade(t, s, api.ErrFull, kind, 25)
		wantMade(t, s, 5, kind, 8) // at 0
		wantStore(t, s, kind, 40, 16, 32)
		wantMade(t, s, 6, kind, 2, 8)
		wantMade(t, s, 7, kind, 8) // above the top
		wantStore(t, s, kind, 40, 40, 40)
		wantValues(t, s, 3, 10, 58, 26, 74, 42, 90)
		wantValues(t, s, 4, 42, 90)
		wantFreed(t, s, 7)
		wantMade(t, s, 8, kind, 40)
	}
}

// Views of views are written, worked and folded as what one gets from the first array.
func TestP14ViewsOfViews(t *testing.T) {
	s := newSpace(t, 0, 200)
	wantMade(t, s, 1, api.Int, 4, 6)
	count(t, s, 1, 0)
	wantNew(t, 2)(s.Turn(1, 1, 0))
	wantNew(t, 3)(s.Cut(2, 0, 5, 3, -2))
	wantNew(t, 4)(s.Turn(3, 1, 0))
	wantNew(t, 5)(s.Cut(1, 1, 5, 3, -2))
	wantSame(t, s, 4, 5)
	wantReshaped(t, 6, true)(s.Reshape(5, 2, 2, 3))
	wantReshaped(t, 7, true)(s.Reshape(6, 4, 3))
	wantSame(t, s, 7, 4)
	count(t, s, 1, 0)
	wantDone(t, s.Work(api.Sub, 4, 5, 7))
	wantValues(t, s, 7, 0, 0, 0, 0, 0, 0, 0, 0, 0, 0, 0, 0)
	wantValues(t, s, 1, 0, 0, 2, 0, 4, 0, 6, 0, 8, 0, 10, 0, 12, 0, 14, 0, 16, 0, 18, 0, 20, 0, 22, 0)
	count(t, s, 5, 1)
	for i, view := range []int{4, 5, 7} {
		wantNew(t, 8+2*i)(s.Fold(api.Add, view, 1))
		wantValues(t, s, 8+2*i, 6, 15, 24, 33)
		wantNew(t, 9+2*i)(s.Fold(api.Max, view, 0))
		wantValues(t, s, 9+2*i, 10, 11, 12)
	}
	wantDone(t, s.Assign(4, 9))
	wantValues(t, s, 7, 10, 11, 12, 10, 11, 12, 10, 11, 12, 10, 11, 12)
}

func TestP2WhatIsDoneInOneSpace(t *testing.T) {
	a, b := newSpace(t, 9, 9), newSpace(t, 9, 9)
	for _, s := range []*trellis.Space{a, b} {
		wantMade(t, s, 1, api.Int, 3)
		count(t, s, 1, 1)
	}
	wantDone(t, a.Work(api.Add, 1, 1, 1))
	wantNew(t, 2)(a.Fold(api.Mul, 1, 0))
	wantValues(t, a, 2, 48)
	wantValues(t, b, 1, 1, 2, 3)
	wantNoArray(t, b, 2)
	wantStore(t, b, api.Int, 9, 3, 3)
	if e := b.Assign(1, 2); e != api.ErrHandle {
		t.Errorf("Assign = %d", e)
	}
}
