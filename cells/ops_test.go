package cells

import (
	"slices"
	"testing"

	"trellis/api"
)

func TestIsOp(t *testing.T) {
	for _, op := range []int{api.Add, api.Sub, api.Mul, api.Min, api.Max} {
		if !IsOp(op) {
			t.Errorf("%d is none", op)
		}
	}
	for _, op := range []int{0, 6, -1, 257, 1<<63 - 1, -1 << 63, 1<<32 + 1} {
		if IsOp(op) {
			t.Errorf("%d is one", op)
		}
	}
}

func TestCombine(t *testing.T) {
	const most, least = 1<<63 - 1, -1 << 63
	bytes, ints := NewStore[uint8](0), NewStore[int64](0)
	for _, c := range []struct{ op, a, b, asBytes, asInts int }{
		{api.Add, 7, 5, 12, 12}, {api.Sub, 7, 5, 2, 2}, {api.Mul, 7, 5, 35, 35}, {api.Min, 7, 5, 5, 5}, {api.Max, 7, 5, 7, 7},
		{api.Add, 200, 100, 44, 300}, {api.Sub, 5, 7, 254, -2}, {api.Mul, 20, 20, 144, 400},
		{api.Min, 5, 7, 5, 5}, {api.Max, 5, 7, 7, 7}, {api.Min, 6, 6, 6, 6}, {api.Max, 6, 6, 6, 6},
		{api.Min, 300, 50, 44, 50}, {api.Max, 300, 50, 50, 300}, {api.Min, -1, 3, 3, -1}, {api.Max, -1, 3, 255, 3},
		{api.Min, 200, 100, 100, 100}, {api.Max, 200, 100, 200, 200},
		{api.Add, most, 1, 0, least}, {api.Sub, least, 1, 255, most}, {api.Mul, most, 2, 254, -2}, {api.Mul, least, -1, 0, least},
		{api.Min, most, least, 0, least}, {api.Max, most, least, 255, most}, {api.Sub, 0, least, 0, least},
	} {
		a, b := []int{c.a, 1}, []int{c.b, 1}
		if made := bytes.Combine(c.op, a, b); len(made) != 2 || made[0] != c.asBytes {
			t.Errorf("%d of %d, %d as bytes: %v, want %d", c.op, c.a, c.b, made, c.asBytes)
		}
		if made := ints.Combine(c.op, a, b); len(made) != 2 || made[0] != c.asInts {
			t.Errorf("%d of %d, %d as ints: %v, want %d", c.op, c.a, c.b, made, c.asInts)
		}
	}
}

func TestCombineIsNewMemory(t *testing.T) {
	s := NewStore[int64](3)
	a, b := []int{1, 2, 3}, []int{4, 5, 6}
	made := s.Combine(api.Add, a, b)
	if !slices.Equal(made, []int{5, 7, 9}) || !slices.Equal(a, []int{1, 2, 3}) || !slices.Equal(b, []int{4, 5, 6}) {
		t.Errorf("Combine = %v, of %v, %v", made, a, b)
	}
	if values := s.Read(0, 1, 2); !slices.Equal(values, []int{0, 0, 0}) {
		t.Errorf("Read = %v", values)
	}
}
