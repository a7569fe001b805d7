package trellis_test

import (
	"slices"
	"testing"

	"trellis/api"
)

func TestP11Look(t *testing.T) {
	s := newSpace(t, 4000, 4000)
	for _, kind := range []int{api.Byte, api.Int} {
		for _, shape := range [][]int{{}, {1}, {60}, {2, 3}, {3, 2}, {1, 1, 5, 1}, {60, 60}} {
			h, e := s.Make(kind, shape...)
			wantDone(t, e)
			look, e := s.Look(h)
			if look.Kind != kind || !slices.Equal(look.Shape, shape) || look.ReadOnly || e != api.OK {
				t.Errorf("Look of %d, %v = %+v, %d", kind, shape, look, e)
			}
		}
	}
}

func TestP11StoreRefuses(t *testing.T) {
	s := newSpace(t, 5, 5)
	wantMade(t, s, 1, api.Byte, 5)
	for _, kind := range []int{0, 3, -1, most, least} {
		if state, e := s.Store(kind); state != (api.Store{}) || e != api.ErrKind {
			t.Errorf("Store(%d) = %+v, %d", kind, state, e)
		}
	}
}

func TestP11Store(t *testing.T) {
	s := newSpace(t, 7, 20)
	wantMade(t, s, 1, api.Int, 2)
	wantMade(t, s, 2, api.Int, 3)
	wantMade(t, s, 3, api.Int, 4)
	wantMade(t, s, 4, api.Byte, 7)
	wantStore(t, s, api.Int, 20, 9, 9)
	wantStore(t, s, api.Byte, 7, 7, 7)
	wantDone(t, s.Free(2))
	wantStore(t, s, api.Int, 20, 6, 9)
	wantDone(t, s.Free(3))
	wantStore(t, s, api.Int, 20, 2, 2)
	wantDone(t, s.Free(1))
	wantStore(t, s, api.Int, 20, 0, 0)
	wantStore(t, s, api.Byte, 7, 7, 7)
}

// scribble writes over a list and all the memory behind it.
func scribble(list []int) {
	list = list[:cap(list)]
	for i := range list {
		list[i] = -9
	}
}

func TestP2ListsThatComeOut(t *testing.T) {
	s := newSpace(t, 10, 10)
	for h, kind := range []int{api.Byte, api.Int} {
		h++
		wantMade(t, s, h, kind, 2, 3)
		wantDone(t, s.Fill(h, 3))
		kept, _ := s.Values(h)
		other, _ := s.Values(h)
		scribble(other)
		if !slices.Equal(kept, []int{3, 3, 3, 3, 3, 3}) {
			t.Errorf("Values of kind %d share memory: %v", kind, kept)
		}
		wantDone(t, s.Fill(h, 4))
		if !slices.Equal(kept, []int{3, 3, 3, 3, 3, 3}) {
			t.Errorf("Values of kind %d change later: %v", kind, kept)
		}
		wantValues(t, s, h, 4, 4, 4, 4, 4, 4)
		one, _ := s.Look(h)
		two, _ := s.Look(h)
		scribble(two.Shape)
		three, _ := s.Look(h)
		if !slices.Equal(one.Shape, []int{2, 3}) || !slices.Equal(three.Shape, []int{2, 3}) {
			t.Errorf("Look of kind %d shares memory: %v, %v", kind, one, three)
		}
	}
}

func TestP2SpacesAreApart(t *testing.T) {
	a, b := newSpace(t, 5, 5), newSpace(t, 5, 5)
	wantMade(t, a, 1, api.Int, 5)
	wantNoArray(t, b, 1)
	wantMade(t, b, 1, api.Int, 2)
	wantDone(t, a.Fill(1, 6))
	wantValues(t, b, 1, 0, 0)
	wantDone(t, b.Free(1))
	wantValues(t, a, 1, 6, 6, 6, 6, 6)
	wantStore(t, a, api.Int, 5, 5, 5)
	wantStore(t, b, api.Int, 5, 0, 0)
}
