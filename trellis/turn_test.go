package trellis_test

import (
	"testing"

	"trellis/api"
)

func TestP5Turn(t *testing.T) { // example 1
	s := newSpace(t, 100, 10)
	wantMade(t, s, 1, api.Int, 2, 3)
	wantDone(t, s.Set(1, 7, 1, 2))
	wantNew(t, 2)(s.Turn(1, 1, 0))
	wantLook(t, s, 2, api.Int, false, 3, 2)
	wantValues(t, s, 2, 0, 0, 0, 0, 0, 7)
	wantDone(t, s.Set(2, 5, 0, 1))
	wantValues(t, s, 1, 0, 0, 0, 5, 0, 7)
	wantShared(t, s, 1, 2, true)
	if v, e := s.Get(2, 0, 1); v != 5 || e != api.OK {
		t.Errorf("Get = %d, %d", v, e)
	}
	wantNew(t, 3)(s.Turn(1, 0, 1))
	wantSame(t, s, 1, 3)
}

// The axis k of the view is the axis axes[k] of the other, not the other way round.
func TestP5TurnThreeAxes(t *testing.T) {
	s := newSpace(t, 30, 0)
	wantMade(t, s, 1, api.Byte, 2, 3, 4)
	count(t, s, 1, 0)
	wantNew(t, 2)(s.Turn(1, 2, 0, 1))
	wantLook(t, s, 2, api.Byte, false, 4, 2, 3)
	for _, index := range indices([]int{4, 2, 3}) {
		v, e := s.Get(2, index...)
		if want := index[1]*12 + index[2]*4 + index[0]; v != want || e != api.OK {
			t.Errorf("Get(2, %v) = %d, %d, want %d", index, v, e, want)
		}
	}
}

func TestP5TurnWithoutAxes(t *testing.T) {
	s := newSpace(t, 0, 2)
	wantMade(t, s, 1, api.Int)
	wantNew(t, 2)(s.Turn(1))
	wantLook(t, s, 2, api.Int, false)
	wantDone(t, s.Set(2, 4))
	wantValues(t, s, 1, 4)
	wantNone(t, api.ErrShape)(s.Turn(1, 0))
}

func TestP5TurnRefuses(t *testing.T) {
	s := newSpace(t, 0, 10)
	wantMade(t, s, 1, api.Int, 2, 3)
	for _, axes := range [][]int{
		nil, {0}, {1}, {0, 0}, {1, 1}, {0, 2}, {1, 2}, {-1, 0}, {0, 1, 2}, {0, 1, 0}, {0, 1, 2, 3, 4},
		{most, 0}, {0, least}, {1 << 32, 1}, make([]int, 1000),
	} {
		wantNone(t, api.ErrShape)(s.Turn(1, axes...))
	}
	wantNew(t, 2)(s.Turn(1, 1, 0))
}

func TestP14TurnThereAndBack(t *testing.T) {
	s := newSpace(t, 0, 120)
	wantMade(t, s, 1, api.Int, 2, 3, 4, 5)
	count(t, s, 1, 0)
	wantNew(t, 2)(s.Turn(1, 3, 1, 0, 2))
	wantLook(t, s, 2, api.Int, false, 5, 3, 2, 4)
	wantNew(t, 3)(s.Turn(2, 2, 1, 3, 0))
	wantLook(t, s, 3, api.Int, false, 2, 3, 4, 5)
	wantSame(t, s, 1, 3)
}
