package trellis_test

import (
	"testing"

	"trellis/api"
	"trellis/trellis"
)

func wantReadOnly(t *testing.T, s *trellis.Space, h int) {
	t.Helper()
	was, _ := s.Values(h)
	if e := s.Fill(h, 12345); e != api.ErrRead {
		t.Fatalf("Fill(%d) = %d", h, e)
	}
	look, _ := s.Look(h)
	// The first index is one, the second none: ErrRead is named ahead of ErrRange.
	for _, index := range [][]int{make([]int, len(look.Shape)), make([]int, 9)} {
		if e := s.Set(h, 12345, index...); e != api.ErrRead {
			t.Fatalf("Set(%d, .., %v) = %d", h, index, e)
		}
	}
	if v, e := s.Get(h, make([]int, 9)...); v != 0 || e != api.ErrRange {
		t.Fatalf("Get(%d) = %d, %d", h, v, e)
	}
	if !look.ReadOnly {
		t.Fatalf("Look(%d) = %+v", h, look)
	}
	wantValues(t, s, h, was...)
}

func TestP5Stretch(t *testing.T) { // example 4
	s := newSpace(t, 10, 0)
	wantMade(t, s, 1, api.Byte, 3)
	wantDone(t, s.Set(1, 300, 0))
	wantNew(t, 2)(s.Stretch(1, 2, 3))
	wantLook(t, s, 2, api.Byte, true, 2, 3)
	wantValues(t, s, 2, 44, 0, 0, 44, 0, 0)
	wantReadOnly(t, s, 2)
	wantDone(t, s.Set(1, 6, 1))
	wantValues(t, s, 2, 44, 6, 0, 44, 6, 0)
	if v, e := s.Get(2, 1, 1); v != 6 || e != api.OK {
		t.Errorf("Get = %d, %d", v, e)
	}
	wantLook(t, s, 1, api.Byte, false, 3)
	wantStore(t, s, api.Byte, 10, 3, 3)
}

func TestP5StretchSizesOfOne(t *testing.T) {
	s := newSpace(t, 0, 10)
	wantMade(t, s, 1, api.Int, 2, 1, 3)
	count(t, s, 1, 1)
	wantNew(t, 2)(s.Stretch(1, 2, 2, 2, 3))
	wantValues(t, s, 2, 1, 2, 3, 1, 2, 3, 4, 5, 6, 4, 5, 6, 1, 2, 3, 1, 2, 3, 4, 5, 6, 4, 5, 6)
	wantMade(t, s, 3, api.Int, 2, 1)
	count(t, s, 3, 8)
	wantNew(t, 4)(s.Stretch(3, 2, 3))
	wantValues(t, s, 4, 8, 8, 8, 9, 9, 9)
	wantMade(t, s, 5, api.Int)
	wantDone(t, s.Set(5, -4))
	wantNew(t, 6)(s.Stretch(5, 1, 2, 1, 2))
	wantLook(t, s, 6, api.Int, true, 1, 2, 1, 2)
	wantValues(t, s, 6, -4, -4, -4, -4)
	wantNew(t, 7)(s.Stretch(5))
	wantLook(t, s, 7, api.Int, true)
	wantReadOnly(t, s, 7)
	wantNew(t, 8)(s.Stretch(5, 60, 60))
	wantNew(t, 9)(s.Stretch(8, 1, 60, 60))
	wantStore(t, s, api.Int, 10, 9, 9)
}

func TestP5StretchToTheSameShape(t *testing.T) {
	s := newSpace(t, 0, 10)
	wantMade(t, s, 1, api.Int, 2, 3)
	count(t, s, 1, 1)
	wantNew(t, 2)(s.Stretch(1, 2, 3))
	wantValues(t, s, 2, 1, 2, 3, 4, 5, 6)
	wantReadOnly(t, s, 2)
	count(t, s, 1, 5)
	wantValues(t, s, 2, 5, 6, 7, 8, 9, 10)
}

func TestP5StretchRefuses(t *testing.T) {
	s := newSpace(t, 0, 10)
	wantMade(t, s, 1, api.Int, 3, 1)
	for _, shape := range [][]int{
		nil, {3}, {1}, {2, 1}, {1, 3}, {1, 1}, {6, 1}, {3, 0}, {3, -1}, {3, 61}, {0, 3, 1}, {1, 1, 1, 3, 1}, {3, 1, 1},
		{60, 3, 60}, {60, 3, 21}, {most, 3, 1}, {3, least}, {1 << 32, 1 << 32, 3, 1}, make([]int, 1000),
	} {
		wantNone(t, api.ErrShape)(s.Stretch(1, shape...))
	}
	wantNew(t, 2)(s.Stretch(1, 60, 3, 20))
}

func TestP5ViewsOfReadOnlyArrays(t *testing.T) {
	s := newSpace(t, 100, 100)
	for i, kind := range []int{api.Byte, api.Int} {
		h := 10*i + 1
		wantMade(t, s, h, kind, 3, 1)
		count(t, s, h, 1)
		wantNew(t, h+1)(s.Stretch(h, 2, 3, 2))
		wantNew(t, h+2)(s.Cut(h+1, 1, 2, 2, -1))
		wantValues(t, s, h+2, 3, 3, 2, 2, 3, 3, 2, 2)
		wantNew(t, h+3)(s.Turn(h+2, 2, 1, 0))
		wantValues(t, s, h+3, 3, 3, 2, 2, 3, 3, 2, 2)
		wantNew(t, h+4)(s.Cut(h+3, 0, 1, 1, 9))
		wantNew(t, h+5)(s.Stretch(h+4, 3, 2, 2))
		wantReshaped(t, h+6, true)(s.Reshape(h+4, 2, 2))
		wantValues(t, s, h+6, 3, 3, 2, 2)
		wantNew(t, h+7)(s.Cut(h+6, 1, 0, 1, 1))
		wantReshaped(t, h+8, true)(s.Reshape(h+7, 2))
		wantValues(t, s, h+8, 3, 2)
		for view := h + 1; view <= h+8; view++ {
			wantReadOnly(t, s, view)
			wantShared(t, s, view, h, true)
		}
		wantReshaped(t, h+9, false)(s.Reshape(h+1, 12))
		wantLook(t, s, h+9, kind, false, 12)
		wantShared(t, s, h+9, h, false)
		wantDone(t, s.Set(h+9, 7, 0))
		wantDone(t, s.Set(h, 8, 0, 0))
		wantValues(t, s, h+9, 7, 1, 2, 2, 3, 3, 1, 1, 2, 2, 3, 3)
		wantValues(t, s, h+1, 8, 8, 2, 2, 3, 3, 8, 8, 2, 2, 3, 3)
	}
}
