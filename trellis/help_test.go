package trellis_test

import (
	"fmt"
	"slices"
	"testing"

	"trellis/api"
	"trellis/trellis"
)

const (
	most  = 1<<63 - 1
	least = -1 << 63
)

func newSpace(t *testing.T, bytes, ints int) *trellis.Space {
	t.Helper()
	s, e := trellis.New(bytes, ints)
	if s == nil || e != api.OK {
		t.Fatalf("New(%d, %d) = %v, %d", bytes, ints, s, e)
	}
	return s
}

func wantMade(t *testing.T, s *trellis.Space, want, kind int, shape ...int) {
	t.Helper()
	if h, e := s.Make(kind, shape...); h != want || e != api.OK {
		t.Fatalf("Make(%d, %v) = %d, %d, want %d", kind, shape, h, e, want)
	}
}

func wantNotMade(t *testing.T, s *trellis.Space, want api.Errno, kind int, shape ...int) {
	t.Helper()
	if h, e := s.Make(kind, shape...); h != 0 || e != want {
		t.Fatalf("Make(%d, %v) = %d, %d, want error %d", kind, shape, h, e, want)
	}
}

func wantDone(t *testing.T, e api.Errno) {
	t.Helper()
	if e != api.OK {
		t.Fatalf("error %d", e)
	}
}

func wantValues(t *testing.T, s *trellis.Space, h int, want ...int) {
	t.Helper()
	if values, e := s.Values(h); !slices.Equal(values, want) || e != api.OK {
		t.Fatalf("Values(%d) = %v, %d, want %v", h, values, e, want)
	}
}

func wantStore(t *testing.T, s *trellis.Space, kind, cells, used, top int) {
	t.Helper()
	state, e := s.Store(kind)
	if state != (api.Store{Cells: cells, Used: used, Top: top}) || e != api.OK {
		t.Fatalf("Store(%d) = %+v, %d, want %d, %d, %d", kind, state, e, cells, used, top)
	}
}

// wantNew is for calls that make an array: wantNew(t, 2)(s.Cut(..)).
func wantNew(t *testing.T, want int) func(int, api.Errno) {
	return func(h int, e api.Errno) {
		t.Helper()
		if h != want || e != api.OK {
			t.Fatalf("%d, %d, want %d", h, e, want)
		}
	}
}

func wantNone(t *testing.T, want api.Errno) func(int, api.Errno) {
	return func(h int, e api.Errno) {
		t.Helper()
		if h != 0 || e != want {
			t.Fatalf("%d, %d, want error %d", h, e, want)
		}
	}
}

func wantReshaped(t *testing.T, want int, view bool) func(int, bool, api.Errno) {
	return func(h int, isView bool, e api.Errno) {
		t.Helper()
		if h != want || isView != view || e != api.OK {
			t.Fatalf("%d, %v, %d, want %d, %v", h, isView, e, want, view)
		}
	}
}

func wantNotReshaped(t *testing.T, want api.Errno) func(int, bool, api.Errno) {
	return func(h int, isView bool, e api.Errno) {
		t.Helper()
		if h != 0 || isView || e != want {
			t.Fatalf("%d, %v, %d, want error %d", h, isView, e, want)
		}
	}
}

func wantLook(t *testing.T, s *trellis.Space, h, kind int, readOnly bool, shape ...int) {
	t.Helper()
	look, e := s.Look(h)
	if look.Kind != kind || look.ReadOnly != readOnly || !slices.Equal(look.Shape, shape) || e != api.OK {
		t.Fatalf("Look(%d) = %+v, %d, want %d, %v, %v", h, look, e, kind, readOnly, shape)
	}
}

func wantShared(t *testing.T, s *trellis.Space, a, b int, want bool) {
	t.Helper()
	for _, c := range [][2]int{{a, b}, {b, a}} {
		if shared, e := s.Shared(c[0], c[1]); shared != want || e != api.OK {
			t.Fatalf("Shared(%d, %d) = %v, %d, want %v", c[0], c[1], shared, e, want)
		}
	}
}

// wantSame holds the values, index by index, of two arrays that have the same
// cells, and that what is written through one is read through the other.
func wantSame(t *testing.T, s *trellis.Space, a, b int) {
	t.Helper()
	was, _ := s.Values(a)
	wantValues(t, s, b, was...)
	count(t, s, a, 1000)
	now, _ := s.Values(a)
	wantValues(t, s, b, now...)
	count(t, s, b, 2000)
	now, _ = s.Values(b)
	wantValues(t, s, a, now...)
}

// count sets the values of an array, in their order, from a number on.
func count(t *testing.T, s *trellis.Space, h, from int) {
	t.Helper()
	values, e := s.Values(h)
	wantDone(t, e)
	for n := range values {
		values[n] = from + n
	}
	put(t, s, h, values...)
}

// put sets the values of an array, in their order.
func put(t *testing.T, s *trellis.Space, h int, values ...int) {
	t.Helper()
	look, e := s.Look(h)
	wantDone(t, e)
	all := indices(look.Shape)
	if len(all) != len(values) {
		t.Fatalf("%d values for the shape %v", len(values), look.Shape)
	}
	for n, index := range all {
		wantDone(t, s.Set(h, values[n], index...))
	}
}

// everything tells all that can be seen of a space, up to a handle.
func everything(s *trellis.Space, last int) string {
	told := ""
	for h := 1; h <= last; h++ {
		values, wrong := s.Values(h)
		look, e := s.Look(h)
		told += fmt.Sprintln(h, values, wrong, look, e)
	}
	for _, kind := range []int{api.Byte, api.Int} {
		state, e := s.Store(kind)
		told += fmt.Sprintln(kind, state, e)
	}
	return told
}

// indices tells all indices of a shape, in their order.
func indices(shape []int) [][]int {
	all := [][]int{{}}
	for _, size := range shape {
		var longer [][]int
		for _, index := range all {
			for i := range size {
				longer = append(longer, append(slices.Clone(index), i))
			}
		}
		all = longer
	}
	return all
}

func wantNoArray(t *testing.T, s *trellis.Space, h int) {
	t.Helper()
	if e := s.Free(h); e != api.ErrHandle {
		t.Errorf("Free(%d) = %d", h, e)
	}
	// The index is none of any array: ErrHandle is named ahead of ErrRange.
	if e := s.Set(h, 1, -1); e != api.ErrHandle {
		t.Errorf("Set(%d) = %d", h, e)
	}
	if v, e := s.Get(h, -1); v != 0 || e != api.ErrHandle {
		t.Errorf("Get(%d) = %d, %d", h, v, e)
	}
	if e := s.Fill(h, 1); e != api.ErrHandle {
		t.Errorf("Fill(%d) = %d", h, e)
	}
	if values, e := s.Values(h); values != nil || e != api.ErrHandle {
		t.Errorf("Values(%d) = %v, %d", h, values, e)
	}
	look, e := s.Look(h)
	if look.Kind != 0 || look.Shape != nil || look.ReadOnly || e != api.ErrHandle {
		t.Errorf("Look(%d) = %+v, %d", h, look, e)
	}
	wantNone(t, api.ErrHandle)(s.Cut(h, -1, -1, 0, 0))
	wantNone(t, api.ErrHandle)(s.Turn(h, -1))
	wantNone(t, api.ErrHandle)(s.Stretch(h, -1))
	wantNotReshaped(t, api.ErrHandle)(s.Reshape(h, -1))
	// The op is one: ErrHandle is named behind ErrArg.
	if e := s.Assign(h, h); e != api.ErrHandle {
		t.Errorf("Assign(%d, %d) = %d", h, h, e)
	}
	if e := s.Work(api.Add, h, h, h); e != api.ErrHandle {
		t.Errorf("Work(.., %d, %d, %d) = %d", h, h, h, e)
	}
	wantNone(t, api.ErrHandle)(s.Fold(api.Add, h, -1))
	if shared, e := s.Shared(h, h); shared || e != api.ErrHandle {
		t.Errorf("Shared(%d, %d) = %v, %d", h, h, shared, e)
	}
}
