package trellis_test

import (
	"testing"

	"trellis/api"
)

func TestP9Work(t *testing.T) {
	for _, kind := range []int{api.Byte, api.Int} {
		s := newSpace(t, 20, 20)
		wantMade(t, s, 1, kind, 4)
		wantMade(t, s, 2, kind, 4)
		wantMade(t, s, 3, kind, 4)
		put(t, s, 2, 9, 4, 7, 0)
		put(t, s, 3, 2, 4, 3, 0)
		for _, c := range []struct {
			op   int
			want []int
		}{
			{api.Add, []int{11, 8, 10, 0}}, {api.Sub, []int{7, 0, 4, 0}}, {api.Mul, []int{18, 16, 21, 0}},
			{api.Min, []int{2, 4, 3, 0}}, {api.Max, []int{9, 4, 7, 0}},
		} {
			wantDone(t, s.Fill(1, 99))
			wantDone(t, s.Work(c.op, 1, 2, 3))
			wantValues(t, s, 1, c.want...)
			wantValues(t, s, 2, 9, 4, 7, 0)
			wantValues(t, s, 3, 2, 4, 3, 0)
		}
		wantDone(t, s.Work(api.Min, 1, 3, 2)) // the lower one may come first
		wantValues(t, s, 1, 2, 4, 3, 0)
		wantDone(t, s.Work(api.Max, 1, 3, 2))
		wantValues(t, s, 1, 9, 4, 7, 0)
	}
}

// edge: what an op makes of a and b, which both lie in an array of Ints.
type edge struct{ op, a, b, asByte, asInt int }

var edges = []edge{
	{api.Add, 200, 56, 0, 256}, {api.Add, 255, 1, 0, 256}, {api.Add, 255, 255, 254, 510}, {api.Add, 300, 300, 88, 600},
	{api.Add, -1, -1, 254, -2}, {api.Add, most, 1, 0, least}, {api.Add, least, -1, 255, most}, {api.Add, least, least, 0, 0},
	{api.Sub, 0, 1, 255, -1}, {api.Sub, 44, 300, 0, -256}, {api.Sub, 1, 255, 2, -254}, {api.Sub, least, 1, 255, most},
	{api.Sub, most, -1, 0, least}, {api.Sub, 0, least, 0, least},
	{api.Mul, 16, 16, 0, 256}, {api.Mul, 255, 255, 1, 65025}, {api.Mul, -1, 3, 253, -3}, {api.Mul, 1 << 62, 4, 0, 0},
	{api.Mul, 1 << 62, 2, 0, least}, {api.Mul, most, most, 1, 1}, {api.Mul, least, -1, 0, least}, {api.Mul, 1<<32 + 1, 1<<32 + 1, 1, 1<<33 + 1},
	{api.Min, 300, 50, 44, 50}, {api.Min, 50, 300, 44, 50}, {api.Min, -1, 3, 3, -1}, {api.Min, 127, 128, 127, 127},
	{api.Min, least, most, 0, least}, {api.Min, -5, -4, 251, -5}, {api.Min, 256, 255, 0, 255},
	{api.Max, 300, 50, 50, 300}, {api.Max, 50, 300, 50, 300}, {api.Max, -1, 3, 255, 3}, {api.Max, 127, 128, 128, 128},
	{api.Max, least, most, 255, most}, {api.Max, -5, -4, 252, -4}, {api.Max, 256, 255, 255, 256},
}

func TestP9WorkOfNumbersOfBothKinds(t *testing.T) {
	s := newSpace(t, 10, 10)
	wantMade(t, s, 1, api.Int)
	wantMade(t, s, 2, api.Int)
	wantMade(t, s, 3, api.Int)
	wantMade(t, s, 4, api.Byte)
	wantMade(t, s, 5, api.Byte)
	for _, c := range edges {
		put(t, s, 1, c.a)
		put(t, s, 2, c.b)
		wantDone(t, s.Work(c.op, 3, 1, 2))
		wantValues(t, s, 3, c.asInt)
		wantDone(t, s.Work(c.op, 4, 1, 2)) // the numbers are taken as Bytes ahead of the op
		wantValues(t, s, 4, c.asByte)
		wantDone(t, s.Assign(5, 2))
		wantDone(t, s.Work(c.op, 4, 1, 5))
		wantValues(t, s, 4, c.asByte)
		wantDone(t, s.Assign(4, 1))
		wantDone(t, s.Work(c.op, 4, 4, 2))
		wantValues(t, s, 4, c.asByte)
		wantDone(t, s.Assign(4, 1))
		wantDone(t, s.Work(c.op, 4, 4, 5))
		wantValues(t, s, 4, c.asByte)
	}
}

func TestP9WorkOfBytesIntoInts(t *testing.T) {
	s := newSpace(t, 10, 10)
	wantMade(t, s, 1, api.Byte, 3)
	wantMade(t, s, 2, api.Byte, 3)
	wantMade(t, s, 3, api.Int, 3)
	put(t, s, 1, 200, 0, 255)
	put(t, s, 2, 100, 1, 255)
	for _, c := range []struct {
		op   int
		want []int
	}{
		{api.Add, []int{300, 1, 510}}, {api.Sub, []int{100, -1, 0}}, {api.Mul, []int{20000, 0, 65025}},
		{api.Min, []int{100, 0, 255}}, {api.Max, []int{200, 1, 255}},
	} {
		wantDone(t, s.Work(c.op, 3, 1, 2)) // no number wraps round as a Byte
		wantValues(t, s, 3, c.want...)
	}
	put(t, s, 3, 1000, -1000, -1)
	wantDone(t, s.Work(api.Sub, 3, 1, 3))
	wantValues(t, s, 3, -800, 1000, 256)
	wantDone(t, s.Work(api.Max, 3, 3, 2))
	wantValues(t, s, 3, 100, 1000, 256)
}

func TestP9WorkStretches(t *testing.T) {
	s := newSpace(t, 30, 30)
	wantMade(t, s, 1, api.Int, 2, 3)
	wantMade(t, s, 2, api.Int, 3)
	wantMade(t, s, 3, api.Byte, 2, 1)
	wantMade(t, s, 4, api.Byte)
	wantMade(t, s, 5, api.Int, 1, 1)
	put(t, s, 2, 10, 20, 30)
	put(t, s, 3, 1, 2)
	put(t, s, 4, 7)
	put(t, s, 5, -3)
	for _, c := range []struct {
		op, a, b int
		want     []int
	}{
		{api.Add, 2, 3, []int{11, 21, 31, 12, 22, 32}}, {api.Sub, 3, 2, []int{-9, -19, -29, -8, -18, -28}},
		{api.Mul, 3, 3, []int{1, 1, 1, 4, 4, 4}}, {api.Mul, 4, 2, []int{70, 140, 210, 70, 140, 210}},
		{api.Sub, 4, 3, []int{6, 6, 6, 5, 5, 5}}, {api.Min, 5, 3, []int{-3, -3, -3, -3, -3, -3}},
		{api.Sub, 2, 5, []int{13, 23, 33, 13, 23, 33}}, {api.Add, 4, 4, []int{14, 14, 14, 14, 14, 14}},
	} {
		wantDone(t, s.Work(c.op, 1, c.a, c.b))
		wantValues(t, s, 1, c.want...)
	}
	wantDone(t, s.Work(api.Sub, 1, 1, 2)) // 14s and 10 20 30
	wantValues(t, s, 1, 4, -6, -16, 4, -6, -16)
	wantDone(t, s.Work(api.Sub, 1, 2, 1))
	wantValues(t, s, 1, 6, 26, 46, 6, 26, 46)
	wantDone(t, s.Work(api.Add, 4, 4, 4))
	wantValues(t, s, 4, 14)
}

func TestP9WorkOfReadOnlyAndTurned(t *testing.T) {
	s := newSpace(t, 0, 30)
	wantMade(t, s, 1, api.Int, 2, 3)
	count(t, s, 1, 1)
	wantNew(t, 2)(s.Turn(1, 1, 0))
	wantMade(t, s, 3, api.Int, 2)
	put(t, s, 3, 10, 20)
	wantNew(t, 4)(s.Stretch(3, 3, 2))
	wantDone(t, s.Work(api.Mul, 2, 2, 4))
	wantValues(t, s, 1, 10, 20, 30, 80, 100, 120)
	wantNew(t, 5)(s.Turn(4, 1, 0))
	wantDone(t, s.Work(api.Sub, 1, 5, 1))
	wantValues(t, s, 1, 0, -10, -20, -60, -80, -100)
	wantDone(t, s.Work(api.Add, 1, 5, 5))
	wantValues(t, s, 1, 20, 20, 20, 40, 40, 40)
}

func TestP9WorkOverlaps(t *testing.T) {
	for _, kind := range []int{api.Byte, api.Int} {
		s := newSpace(t, 5, 5)
		wantMade(t, s, 1, kind, 5)
		wantNew(t, 2)(s.Cut(1, 0, 0, 4, 1))
		wantNew(t, 3)(s.Cut(1, 0, 1, 4, 1))
		wantNew(t, 4)(s.Cut(1, 0, 4, 5, -1))
		wantNew(t, 5)(s.Cut(1, 0, 2, 1, 1))
		for _, c := range []struct {
			op, to, a, b int
			want         []int
		}{
			{api.Add, 1, 1, 1, []int{2, 4, 8, 16, 32}}, {api.Sub, 4, 4, 4, []int{0, 0, 0, 0, 0}},
			{api.Add, 3, 2, 3, []int{1, 3, 6, 12, 24}}, {api.Add, 3, 3, 2, []int{1, 3, 6, 12, 24}},
			{api.Add, 2, 2, 3, []int{3, 6, 12, 24, 16}}, {api.Sub, 2, 3, 2, []int{1, 2, 4, 8, 16}},
			{api.Add, 3, 2, 2, []int{1, 2, 4, 8, 16}}, {api.Mul, 2, 3, 3, []int{4, 16, 64, 0, 16}},
			{api.Add, 1, 1, 4, []int{17, 10, 8, 10, 17}}, {api.Max, 4, 1, 4, []int{16, 8, 4, 8, 16}},
			{api.Add, 1, 5, 5, []int{8, 8, 8, 8, 8}}, {api.Add, 1, 5, 1, []int{5, 6, 8, 12, 20}},
			{api.Add, 4, 1, 5, []int{20, 12, 8, 6, 5}}, {api.Mul, 5, 5, 5, []int{1, 2, 16, 8, 16}},
		} {
			put(t, s, 1, 1, 2, 4, 8, 16)
			want := c.want
			if kind == api.Int && c.op == api.Mul && c.to == 2 {
				want = []int{4, 16, 64, 256, 16}
			}
			wantDone(t, s.Work(c.op, c.to, c.a, c.b))
			wantValues(t, s, 1, want...)
		}
	}
}

func TestP9WorkTurnedByItself(t *testing.T) {
	s := newSpace(t, 0, 9)
	wantMade(t, s, 1, api.Int, 3, 3)
	count(t, s, 1, 1)
	wantNew(t, 2)(s.Turn(1, 1, 0))
	wantDone(t, s.Work(api.Sub, 1, 1, 2))
	wantValues(t, s, 1, 0, -2, -4, 2, 0, -2, 4, 2, 0)
	wantDone(t, s.Work(api.Sub, 2, 1, 2))
	wantValues(t, s, 1, 0, 4, 8, -4, 0, 4, -8, -4, 0)
	wantNew(t, 3)(s.Cut(1, 0, 1, 1, 1))
	wantNew(t, 4)(s.Turn(3, 1, 0))
	wantDone(t, s.Work(api.Mul, 1, 3, 4)) // the middle row and the same one upright
	wantValues(t, s, 1, 16, 0, -16, 0, 0, 0, -16, 0, 16)
}

func TestP9WorkRefuses(t *testing.T) {
	s := wrongHandles(t)
	was := everything(s, 5)
	for _, c := range []struct {
		op, to, a, b int
		want         api.Errno
	}{
		{0, 1, 1, 1, api.ErrArg}, {6, 1, 1, 1, api.ErrArg}, {-1, 1, 1, 1, api.ErrArg}, {most, 1, 1, 1, api.ErrArg},
		{least, 1, 1, 1, api.ErrArg}, {257, 1, 1, 1, api.ErrArg}, {1<<32 + 1, 1, 1, 1, api.ErrArg},
		{0, 4, 4, 4, api.ErrArg}, {6, 2, 0, 3, api.ErrArg}, {6, 2, 1, 1, api.ErrArg}, {0, 1, 3, 3, api.ErrArg},
		{api.Add, 4, 1, 1, api.ErrHandle}, {api.Sub, 1, 4, 1, api.ErrHandle}, {api.Mul, 1, 1, 4, api.ErrHandle},
		{api.Min, 0, 1, 1, api.ErrHandle}, {api.Max, 1, 5, 1, api.ErrHandle}, {api.Add, 1, 1, -1, api.ErrHandle},
		{api.Add, most, 1, 1, api.ErrHandle}, {api.Add, 1, least, 1, api.ErrHandle}, {api.Add, 1, 1, most, api.ErrHandle},
		{api.Add, 2, 4, 1, api.ErrHandle}, {api.Add, 2, 1, 4, api.ErrHandle}, {api.Add, 2, 3, 4, api.ErrHandle},
		{api.Add, 1, 3, 4, api.ErrHandle}, {api.Add, 1, 4, 3, api.ErrHandle}, {api.Add, 4, 3, 3, api.ErrHandle},
		{api.Add, 2, 1, 1, api.ErrRead}, {api.Sub, 2, 2, 2, api.ErrRead}, {api.Add, 2, 3, 1, api.ErrRead}, {api.Add, 2, 1, 3, api.ErrRead},
		{api.Add, 1, 3, 1, api.ErrShape}, {api.Add, 1, 1, 3, api.ErrShape}, {api.Max, 1, 3, 3, api.ErrShape},
		{api.Add, 3, 1, 3, api.ErrShape}, {api.Add, 3, 3, 2, api.ErrShape},
	} {
		if e := s.Work(c.op, c.to, c.a, c.b); e != c.want {
			t.Errorf("Work(%d, %d, %d, %d) = %d, want %d", c.op, c.to, c.a, c.b, e, c.want)
		}
	}
	if everything(s, 5) != was {
		t.Errorf("changed:\n%s\nwas:\n%s", everything(s, 5), was)
	}
	wantMade(t, s, 5, api.Int)
}

func TestP9WorkShapesThatAreNot(t *testing.T) {
	s := newSpace(t, 0, 100)
	wantMade(t, s, 1, api.Int, 2, 3)
	for i, shape := range [][]int{{2}, {3, 2}, {6}, {1, 2, 3}, {2, 2}, {3, 3}, {1, 1, 1}} {
		h := i + 2
		wantMade(t, s, h, api.Int, shape...)
		for _, c := range [][2]int{{h, 1}, {1, h}, {h, h}} {
			if e := s.Work(api.Add, 1, c[0], c[1]); e != api.ErrShape {
				t.Errorf("Work with %v: %d", shape, e)
			}
		}
	}
	wantMade(t, s, 9, api.Int)
	for h := 1; h <= 8; h++ {
		if e := s.Work(api.Add, 9, 9, h); e != api.ErrShape {
			t.Errorf("Work of no axes with %d: %d", h, e)
		}
	}
}
