package trellis_test

import (
	"slices"
	"testing"

	"trellis/api"
)

func TestP11Shared(t *testing.T) {
	s := newSpace(t, 20, 20)
	wantMade(t, s, 1, api.Int, 3, 4)
	wantNew(t, 2)(s.Cut(1, 1, 0, 2, 2))
	wantNew(t, 3)(s.Cut(1, 1, 3, 2, -2))
	wantNew(t, 4)(s.Cut(1, 0, 1, 1, 1))
	wantNew(t, 5)(s.Cut(1, 0, 2, 1, 1))
	wantNew(t, 6)(s.Stretch(5, 2, 4))
	wantNew(t, 7)(s.Turn(6, 1, 0))
	wantMade(t, s, 8, api.Int, 2)
	wantMade(t, s, 9, api.Byte, 3, 4)
	apart := [][2]int{{2, 3}, {4, 5}, {4, 6}, {4, 7}}
	for a := 1; a <= 9; a++ {
		for b := a; b <= 9; b++ {
			want := a == b || (b < 8 && !slices.Contains(apart, [2]int{a, b}))
			wantShared(t, s, a, b, want)
		}
	}
}

func TestP11SharedRefuses(t *testing.T) {
	s := newSpace(t, 2, 2)
	wantMade(t, s, 1, api.Int)
	wantMade(t, s, 2, api.Int)
	wantDone(t, s.Free(2))
	for _, c := range [][2]int{{1, 2}, {2, 1}, {2, 2}, {0, 1}, {1, 0}, {1, -1}, {most, 1}, {1, least}, {3, 4}} {
		if shared, e := s.Shared(c[0], c[1]); shared || e != api.ErrHandle {
			t.Errorf("Shared(%d, %d) = %v, %d", c[0], c[1], shared, e)
		}
	}
}

func TestP7BufferOutlivesItsArray(t *testing.T) {
	s := newSpace(t, 10, 10)
	for i, kind := range []int{api.Byte, api.Int} {
		h := 5*i + 1
		wantMade(t, s, h, kind, 6)
		count(t, s, h, 1)
		wantNew(t, h+1)(s.Cut(h, 0, 2, 1, 1))
		wantDone(t, s.Free(h))
		wantNoArray(t, s, h)
		wantStore(t, s, kind, 10, 6, 6)
		wantNotMade(t, s, api.ErrFull, kind, 5)
		wantNew(t, h+2)(s.Stretch(h+1, 2))
		wantDone(t, s.Free(h+1))
		wantValues(t, s, h+2, 3, 3)
		wantStore(t, s, kind, 10, 6, 6)
		wantMade(t, s, h+3, kind, 4)
		wantValues(t, s, h+3, 0, 0, 0, 0)
		wantDone(t, s.Free(h+2))
		wantStore(t, s, kind, 10, 4, 10)
		wantMade(t, s, h+4, kind, 3, 2)
		wantValues(t, s, h+4, 0, 0, 0, 0, 0, 0)
		wantStore(t, s, kind, 10, 10, 10)
	}
}

// Buffers of both kinds start at 0, and each store has another one behind it: a
// buffer must not be held by arrays of another one.
func TestP7BuffersAreToldApart(t *testing.T) {
	s := newSpace(t, 10, 10)
	wantMade(t, s, 1, api.Byte, 2)
	wantMade(t, s, 2, api.Int, 2)
	wantMade(t, s, 3, api.Int, 2)
	wantNew(t, 4)(s.Cut(2, 0, 1, 1, 1))
	wantNew(t, 5)(s.Cut(3, 0, 1, 1, 1))
	wantDone(t, s.Free(1))
	wantStore(t, s, api.Byte, 10, 0, 0)
	wantStore(t, s, api.Int, 10, 4, 4)
	wantDone(t, s.Free(3))
	wantDone(t, s.Free(5))
	wantStore(t, s, api.Int, 10, 2, 2)
	wantDone(t, s.Free(2))
	wantStore(t, s, api.Int, 10, 2, 2)
	wantDone(t, s.Free(4))
	wantStore(t, s, api.Int, 10, 0, 0)
}

// orders tells all orders of a list.
func orders(list []int) [][]int {
	if len(list) == 0 {
		return [][]int{nil}
	}
	var all [][]int
	for i, first := range list {
		for _, rest := range orders(slices.Delete(slices.Clone(list), i, i+1)) {
			all = append(all, append([]int{first}, rest...))
		}
	}
	return all
}

func TestP13FreedInAnyOrder(t *testing.T) {
	for _, order := range orders([]int{1, 2, 3, 4, 5, 6}) {
		s := newSpace(t, 0, 12)
		wantMade(t, s, 1, api.Int, 2, 2)
		wantNew(t, 2)(s.Cut(1, 0, 1, 2, -1))
		wantMade(t, s, 3, api.Int, 3)
		wantNew(t, 4)(s.Turn(2, 1, 0))
		wantReshaped(t, 5, false)(s.Reshape(4, 4))
		wantNew(t, 6)(s.Stretch(5, 2, 4))
		volumes := map[int]int{1: 4, 2: 4, 4: 4, 3: 3, 5: 4, 6: 4}
		starts := map[int]int{1: 0, 2: 0, 4: 0, 3: 4, 5: 7, 6: 7}
		wantStore(t, s, api.Int, 12, 11, 11)
		for i, h := range order {
			wantDone(t, s.Free(h))
			used, top := 0, 0
			held := map[int]int{}
			for _, rest := range order[i+1:] {
				held[starts[rest]] = volumes[rest]
			}
			for start, volume := range held {
				used += volume
				top = max(top, start+volume)
			}
			wantStore(t, s, api.Int, 12, used, top)
		}
		wantMade(t, s, 7, api.Int, 12)
	}
}

func TestP13RoomAboveTop(t *testing.T) {
	s := newSpace(t, 0, 10)
	wantMade(t, s, 1, api.Int, 6)
	wantNew(t, 2)(s.Cut(1, 0, 0, 1, 1))
	wantDone(t, s.Free(1))
	wantStore(t, s, api.Int, 10, 6, 6)
	wantNotMade(t, s, api.ErrFull, api.Int, 5)
	wantMade(t, s, 3, api.Int, 4)
	wantDone(t, s.Free(2))
	wantStore(t, s, api.Int, 10, 4, 10)
	wantMade(t, s, 4, api.Int, 6)
}

func TestP3ManyViews(t *testing.T) {
	s := newSpace(t, 0, 6)
	wantMade(t, s, 1, api.Int, 2, 3)
	wantNew(t, 2)(s.Turn(1, 1, 0))
	for h := 3; h <= 40; h++ {
		wantNew(t, h)(s.Cut(h-1, 0, 0, 2, 1))
	}
	wantNone(t, api.ErrHandle)(s.Cut(41, -1, 0, 1, 1))
	wantNone(t, api.ErrRange)(s.Cut(1, 2, 0, 1, 1))
	wantNone(t, api.ErrRange)(s.Cut(1, 0, 0, 1, 0))
	wantNone(t, api.ErrMany)(s.Cut(1, 0, 0, 1, 1))
	wantNone(t, api.ErrHandle)(s.Turn(41, 0, 0))
	wantNone(t, api.ErrShape)(s.Turn(1, 0, 0))
	wantNone(t, api.ErrMany)(s.Turn(1, 0, 1))
	wantNone(t, api.ErrHandle)(s.Stretch(41, 0))
	wantNone(t, api.ErrShape)(s.Stretch(1, 2, 3, 0))
	wantNone(t, api.ErrShape)(s.Stretch(1, 3, 3))
	wantNone(t, api.ErrMany)(s.Stretch(1, 2, 3))
	wantNotReshaped(t, api.ErrHandle)(s.Reshape(41, 0))
	wantNotReshaped(t, api.ErrShape)(s.Reshape(1, 0))
	wantNotReshaped(t, api.ErrShape)(s.Reshape(1, 5))
	wantNotReshaped(t, api.ErrMany)(s.Reshape(1, 6))
	wantNotReshaped(t, api.ErrMany)(s.Reshape(2, 6)) // no view, and no place for a copy
	wantNotMade(t, s, api.ErrMany, api.Int)
	wantStore(t, s, api.Int, 6, 6, 6)
	wantDone(t, s.Free(40))
	wantNotReshaped(t, api.ErrShape)(s.Reshape(2, 5))
	wantNotReshaped(t, api.ErrFull)(s.Reshape(2, 6))
	wantNotMade(t, s, api.ErrFull, api.Int)
	wantReshaped(t, 41, true)(s.Reshape(1, 6))
	wantNone(t, api.ErrMany)(s.Turn(1, 0, 1))
}

// A view needs no place, and a copy takes the lowest one.
func TestP6PlaceOfACopy(t *testing.T) {
	s := newSpace(t, 0, 16)
	wantMade(t, s, 1, api.Int, 6)
	wantMade(t, s, 2, api.Int, 2, 2)
	wantMade(t, s, 3, api.Int, 6)
	count(t, s, 2, 1)
	wantNew(t, 4)(s.Turn(2, 1, 0))
	wantReshaped(t, 5, true)(s.Reshape(2, 4))
	wantNotReshaped(t, api.ErrFull)(s.Reshape(4, 4))
	wantDone(t, s.Fill(1, 9))
	wantDone(t, s.Free(1))
	wantReshaped(t, 6, false)(s.Reshape(4, 4))
	wantValues(t, s, 6, 1, 3, 2, 4)
	wantStore(t, s, api.Int, 16, 14, 16)
	wantMade(t, s, 7, api.Int, 2)
	wantStore(t, s, api.Int, 16, 16, 16)
	wantValues(t, s, 7, 0, 0)
}

func TestP2ViewsKeepNoList(t *testing.T) {
	s := newSpace(t, 0, 20)
	wantMade(t, s, 1, api.Int, 2, 3)
	count(t, s, 1, 1)
	axes, shape, view, copied := []int{1, 0, 7}, []int{2, 2, 3, 7}, []int{3, 2, 7}, []int{6, 2, 7}
	wantNew(t, 2)(s.Turn(1, axes[:2]...))
	wantNew(t, 3)(s.Stretch(1, shape[:3]...))
	wantReshaped(t, 4, true)(s.Reshape(1, view[:2]...))
	wantReshaped(t, 5, false)(s.Reshape(3, copied[:2]...))
	if !slices.Equal(axes, []int{1, 0, 7}) || !slices.Equal(shape, []int{2, 2, 3, 7}) ||
		!slices.Equal(view, []int{3, 2, 7}) || !slices.Equal(copied, []int{6, 2, 7}) {
		t.Errorf("written into: %v, %v, %v, %v", axes, shape, view, copied)
	}
	for _, list := range [][]int{axes, shape, view, copied} {
		scribble(list)
	}
	wantLook(t, s, 2, api.Int, false, 3, 2)
	wantLook(t, s, 3, api.Int, true, 2, 2, 3)
	wantLook(t, s, 4, api.Int, false, 3, 2)
	wantLook(t, s, 5, api.Int, false, 6, 2)
	wantValues(t, s, 2, 1, 4, 2, 5, 3, 6)
	wantValues(t, s, 3, 1, 2, 3, 4, 5, 6, 1, 2, 3, 4, 5, 6)
	wantValues(t, s, 4, 1, 2, 3, 4, 5, 6)
	wantValues(t, s, 5, 1, 2, 3, 4, 5, 6, 1, 2, 3, 4, 5, 6)
}
