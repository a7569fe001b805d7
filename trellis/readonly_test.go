package trellis

import (
	"testing"

	"trellis/api"
)

// No call that is built makes a read-only array, so the test makes one from inside.
func TestP8ReadOnly(t *testing.T) {
	s, _ := New(0, 3)
	h, _ := s.Make(api.Int, 3)
	s.Fill(h, 5)
	locked := s.arrays[h]
	locked.readOnly = true
	s.arrays[h] = locked
	if e := s.Set(h, 6, 1); e != api.ErrRead {
		t.Errorf("Set = %d", e)
	}
	if e := s.Set(h, 6, 3); e != api.ErrRead {
		t.Errorf("Set at no index = %d", e)
	}
	if e := s.Fill(h, 6); e != api.ErrRead {
		t.Errorf("Fill = %d", e)
	}
	for i := range 3 {
		if v, e := s.Get(h, i); v != 5 || e != api.OK {
			t.Errorf("Get(%d) = %d, %d", i, v, e)
		}
	}
	if look, e := s.Look(h); !look.ReadOnly || e != api.OK {
		t.Errorf("Look = %+v, %d", look, e)
	}
	if e := s.Free(h); e != api.OK {
		t.Errorf("Free = %d", e)
	}
}
