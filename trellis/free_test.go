package trellis_test

import (
	"testing"

	"trellis/api"
)

func TestP7Free(t *testing.T) {
	s := newSpace(t, 10, 10)
	wantMade(t, s, 1, api.Int, 2)
	wantMade(t, s, 2, api.Byte, 3)
	wantMade(t, s, 3, api.Int, 4)
	wantDone(t, s.Fill(1, 5))
	wantDone(t, s.Fill(2, 6))
	wantDone(t, s.Fill(3, 7))
	wantDone(t, s.Free(1))
	wantNoArray(t, s, 1)
	wantStore(t, s, api.Int, 10, 4, 6)
	wantValues(t, s, 2, 6, 6, 6)
	wantValues(t, s, 3, 7, 7, 7, 7)
	wantDone(t, s.Free(3))
	wantStore(t, s, api.Int, 10, 0, 0)
	wantStore(t, s, api.Byte, 10, 3, 3)
}

func TestP7HandleNeverComesAgain(t *testing.T) {
	s := newSpace(t, 1, 1)
	for h := 1; h <= 200; h++ {
		wantMade(t, s, h, api.Byte)
		wantDone(t, s.Free(h))
		wantNoArray(t, s, h)
	}
	wantStore(t, s, api.Byte, 1, 0, 0)
}

func TestP7FreeRefuses(t *testing.T) {
	s := newSpace(t, 1, 1)
	for _, h := range []int{0, 1, -1, most, least} {
		if e := s.Free(h); e != api.ErrHandle {
			t.Errorf("Free(%d) = %d", h, e)
		}
	}
	wantMade(t, s, 1, api.Int)
	wantDone(t, s.Free(1))
	if e := s.Free(1); e != api.ErrHandle {
		t.Errorf("Free(1) again = %d", e)
	}
}
