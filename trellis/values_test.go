package trellis_test

import (
	"slices"
	"testing"

	"trellis/api"
)

func TestP8SetAndGet(t *testing.T) { // example 1
	s := newSpace(t, 100, 10)
	wantMade(t, s, 1, api.Int, 2, 3)
	wantDone(t, s.Set(1, 7, 1, 2))
	wantValues(t, s, 1, 0, 0, 0, 0, 0, 7)
	wantDone(t, s.Set(1, 5, 1, 0))
	wantValues(t, s, 1, 0, 0, 0, 5, 0, 7)
	if v, e := s.Get(1, 1, 0); v != 5 || e != api.OK {
		t.Errorf("Get = %d, %d", v, e)
	}
}

func TestP8NoAxes(t *testing.T) {
	s := newSpace(t, 1, 1)
	wantMade(t, s, 1, api.Int)
	wantDone(t, s.Set(1, -3))
	if v, e := s.Get(1); v != -3 || e != api.OK {
		t.Errorf("Get = %d, %d", v, e)
	}
	wantValues(t, s, 1, -3)
	if e := s.Set(1, 4, 0); e != api.ErrRange {
		t.Errorf("Set = %d", e)
	}
	wantDone(t, s.Fill(1, 8))
	wantValues(t, s, 1, 8)
}

func TestP8FourAxes(t *testing.T) {
	s := newSpace(t, 200, 0)
	wantMade(t, s, 1, api.Byte, 2)
	wantMade(t, s, 2, api.Byte, 2, 3, 4, 5)
	want := make([]int, 120)
	for n := range want {
		want[n] = n
		wantDone(t, s.Set(2, n, n/60, n/20%3, n/5%4, n%5))
	}
	wantValues(t, s, 2, want...)
	wantValues(t, s, 1, 0, 0)
}

func TestP8TakenAsAKind(t *testing.T) { // example 4
	s := newSpace(t, 3, 3)
	wantMade(t, s, 1, api.Byte, 3)
	wantMade(t, s, 2, api.Int, 3)
	for _, c := range []struct{ value, asByte int }{
		{0, 0}, {44, 44}, {200, 200}, {255, 255}, {256, 0}, {300, 44}, {-1, 255}, {-256, 0}, {most, 255}, {least, 0},
	} {
		wantDone(t, s.Fill(1, 1))
		wantDone(t, s.Set(1, c.value, 1))
		wantValues(t, s, 1, 1, c.asByte, 1)
		wantDone(t, s.Fill(2, 1))
		wantDone(t, s.Set(2, c.value, 1))
		wantValues(t, s, 2, 1, c.value, 1)
		if v, e := s.Get(1, 1); v != c.asByte || e != api.OK {
			t.Errorf("Get = %d, %d, want %d", v, e, c.asByte)
		}
		wantDone(t, s.Fill(1, c.value))
		wantValues(t, s, 1, c.asByte, c.asByte, c.asByte)
	}
}

func TestP8Fill(t *testing.T) {
	s := newSpace(t, 10, 10)
	wantMade(t, s, 1, api.Int, 2)
	wantMade(t, s, 2, api.Int, 2, 2)
	wantMade(t, s, 3, api.Int, 2)
	wantMade(t, s, 4, api.Byte, 4)
	wantDone(t, s.Fill(2, -6))
	wantValues(t, s, 1, 0, 0)
	wantValues(t, s, 2, -6, -6, -6, -6)
	wantValues(t, s, 3, 0, 0)
	wantValues(t, s, 4, 0, 0, 0, 0)
}

func TestP8NoIndex(t *testing.T) {
	s := newSpace(t, 10, 10)
	wantMade(t, s, 1, api.Int, 2, 3)
	wantDone(t, s.Fill(1, 4))
	for _, index := range [][]int{
		nil, {0}, {5}, {2, 0}, {0, 3}, {-1, 0}, {1, -1}, {0, 0, 0}, {0, 5}, {most, 0}, {0, least}, {1 << 62, 1 << 62},
		make([]int, 100),
	} {
		if v, e := s.Get(1, index...); v != 0 || e != api.ErrRange {
			t.Errorf("Get(1, %v) = %d, %d", index, v, e)
		}
		if e := s.Set(1, 5, index...); e != api.ErrRange {
			t.Errorf("Set(1, 5, %v) = %d", index, e)
		}
	}
	wantValues(t, s, 1, 4, 4, 4, 4, 4, 4)
}

func TestP2ListsThatGoIn(t *testing.T) {
	s := newSpace(t, 10, 10)
	shape := []int{2, 3, 4, 5}
	wantMade(t, s, 1, api.Int, shape[:2]...)
	index := []int{1, 2, 77}
	wantDone(t, s.Set(1, 7, index[:2]...))
	if v, e := s.Get(1, index[:2]...); v != 7 || e != api.OK {
		t.Errorf("Get = %d, %d", v, e)
	}
	if !slices.Equal(shape, []int{2, 3, 4, 5}) || !slices.Equal(index, []int{1, 2, 77}) {
		t.Errorf("written into: %v, %v", shape, index)
	}
	shape[0], shape[1] = 9, 9
	if look, _ := s.Look(1); !slices.Equal(look.Shape, []int{2, 3}) {
		t.Errorf("kept: %v", look.Shape)
	}
}
