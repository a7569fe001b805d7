package cells

import (
	"slices"
	"testing"

	"trellis/api"
)

func take[N Number](t *testing.T, s *Store[N], size, want int) {
	t.Helper()
	if start, ok := s.Take(size); start != want || !ok {
		t.Fatalf("Take(%d) = %d, %v, want %d", size, start, ok, want)
	}
}

func state[N Number](t *testing.T, s *Store[N], cells, used, top int) {
	t.Helper()
	if x := s.State(); x != (api.Store{Cells: cells, Used: used, Top: top}) {
		t.Fatalf("State = %+v, want %d, %d, %d", x, cells, used, top)
	}
}

func TestLowestPlace(t *testing.T) {
	s := NewStore[int64](10)
	take(t, s, 3, 0)
	take(t, s, 3, 3)
	take(t, s, 4, 6)
	state(t, s, 10, 10, 10)
	s.GiveBack(0)
	s.GiveBack(6)
	state(t, s, 10, 3, 6)
	for _, size := range []int{5, 10} {
		if start, ok := s.Take(size); ok || start != 0 {
			t.Errorf("Take(%d) = %d, %v", size, start, ok)
		}
	}
	state(t, s, 10, 3, 6)
	take(t, s, 4, 6)
	take(t, s, 2, 0)
	take(t, s, 1, 2)
	state(t, s, 10, 10, 10)
}

func TestGapsJoin(t *testing.T) {
	s := NewStore[uint8](9)
	for i := range 3 {
		take(t, s, 3, 3*i)
	}
	s.GiveBack(3)
	s.GiveBack(0)
	take(t, s, 6, 0)
	s.GiveBack(6)
	s.GiveBack(0)
	state(t, s, 9, 0, 0)
	take(t, s, 9, 0)
}

func TestNoCells(t *testing.T) {
	s := NewStore[uint8](0)
	if start, ok := s.Take(1); ok || start != 0 {
		t.Errorf("Take(1) = %d, %v", start, ok)
	}
	state(t, s, 0, 0, 0)
}

func TestTakenCellsAreZero(t *testing.T) {
	s := NewStore[int64](4)
	take(t, s, 4, 0)
	s.Fill(9, 0, 1, 2, 3)
	s.GiveBack(0)
	take(t, s, 4, 0)
	if values := s.Read(0, 1, 2, 3); !slices.Equal(values, []int{0, 0, 0, 0}) {
		t.Errorf("Read = %v", values)
	}
}

func TestGiveBackLeavesTheOthers(t *testing.T) {
	s := NewStore[int64](6)
	take(t, s, 2, 0)
	take(t, s, 2, 2)
	take(t, s, 2, 4)
	s.Fill(7, 0, 1, 2, 3, 4, 5)
	s.GiveBack(2)
	if values := s.Read(0, 1, 4, 5); !slices.Equal(values, []int{7, 7, 7, 7}) {
		t.Errorf("Read = %v", values)
	}
	state(t, s, 6, 4, 6)
}

func TestNumbersOfBothKinds(t *testing.T) {
	bytes, ints := NewStore[uint8](3), NewStore[int64](3)
	for _, c := range []struct{ value, asByte int }{
		{0, 0}, {255, 255}, {256, 0}, {300, 44}, {-1, 255}, {-1 << 63, 0}, {1<<63 - 1, 255},
	} {
		bytes.Fill(c.value, 0, 2)
		ints.Fill(c.value, 0, 2)
		if values := bytes.Read(2, 1, 0); !slices.Equal(values, []int{c.asByte, 0, c.asByte}) {
			t.Errorf("%d as bytes: %v", c.value, values)
		}
		if values := ints.Read(2, 1, 0); !slices.Equal(values, []int{c.value, 0, c.value}) {
			t.Errorf("%d as ints: %v", c.value, values)
		}
	}
}

func TestWrite(t *testing.T) {
	bytes, ints := NewStore[uint8](4), NewStore[int64](4)
	bytes.Write([]int{3, 0, 1}, []int{300, -1, 7})
	ints.Write([]int{3, 0, 1}, []int{300, -1, 7})
	if values := bytes.Read(0, 1, 2, 3); !slices.Equal(values, []int{255, 7, 0, 44}) {
		t.Errorf("bytes: %v", values)
	}
	if values := ints.Read(0, 1, 2, 3); !slices.Equal(values, []int{-1, 7, 0, 300}) {
		t.Errorf("ints: %v", values)
	}
}
