package trellis_test

import (
	"slices"
	"testing"

	"trellis/api"
	"trellis/trellis"
)

const (
	most  = 1<<63 - 1
	least = -1 << 63
)

func newSpace(t *testing.T, bytes, ints int) *trellis.Space {
	t.Helper()
	s, e := trellis.New(bytes, ints)
	if s == nil || e != api.OK {
		t.Fatalf("New(%d, %d) = %v, %d", bytes, ints, s, e)
	}
	return s
}

func wantMade(t *testing.T, s *trellis.Space, want, kind int, shape ...int) {
	t.Helper()
	if h, e := s.Make(kind, shape...); h != want || e != api.OK {
		t.Fatalf("Make(%d, %v) = %d, %d, want %d", kind, shape, h, e, want)
	}
}

func wantNotMade(t *testing.T, s *trellis.Space, want api.Errno, kind int, shape ...int) {
	t.Helper()
	if h, e := s.Make(kind, shape...); h != 0 || e != want {
		t.Fatalf("Make(%d, %v) = %d, %d, want error %d", kind, shape, h, e, want)
	}
}

func wantDone(t *testing.T, e api.Errno) {
	t.Helper()
	if e != api.OK {
		t.Fatalf("error %d", e)
	}
}

func wantValues(t *testing.T, s *trellis.Space, h int, want ...int) {
	t.Helper()
	if values, e := s.Values(h); !slices.Equal(values, want) || e != api.OK {
		t.Fatalf("Values(%d) = %v, %d, want %v", h, values, e, want)
	}
}

func wantStore(t *testing.T, s *trellis.Space, kind, cells, used, top int) {
	t.Helper()
	state, e := s.Store(kind)
	if state != (api.Store{Cells: cells, Used: used, Top: top}) || e != api.OK {
		t.Fatalf("Store(%d) = %+v, %d, want %d, %d, %d", kind, state, e, cells, used, top)
	}
}

func wantNoArray(t *testing.T, s *trellis.Space, h int) {
	t.Helper()
	if e := s.Free(h); e != api.ErrHandle {
		t.Errorf("Free(%d) = %d", h, e)
	}
	// The index is none of any array: ErrHandle is named ahead of ErrRange.
	if e := s.Set(h, 1, -1); e != api.ErrHandle {
		t.Errorf("Set(%d) = %d", h, e)
	}
	if v, e := s.Get(h, -1); v != 0 || e != api.ErrHandle {
		t.Errorf("Get(%d) = %d, %d", h, v, e)
	}
	if e := s.Fill(h, 1); e != api.ErrHandle {
		t.Errorf("Fill(%d) = %d", h, e)
	}
	if values, e := s.Values(h); values != nil || e != api.ErrHandle {
		t.Errorf("Values(%d) = %v, %d", h, values, e)
	}
	look, e := s.Look(h)
	if look.Kind != 0 || look.Shape != nil || look.ReadOnly || e != api.ErrHandle {
		t.Errorf("Look(%d) = %+v, %d", h, look, e)
	}
}
