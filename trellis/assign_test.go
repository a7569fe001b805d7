package trellis_test

import (
	"testing"

	"trellis/api"
	"trellis/trellis"
)

func TestP9Assign(t *testing.T) { // example 4
	s := newSpace(t, 10, 10)
	wantMade(t, s, 1, api.Int, 2, 3)
	wantMade(t, s, 2, api.Byte, 3)
	wantDone(t, s.Set(2, 300, 0))
	wantNew(t, 3)(s.Stretch(2, 2, 3))
	wantDone(t, s.Fill(1, -5))
	wantDone(t, s.Assign(1, 3))
	wantValues(t, s, 1, 44, 0, 0, 44, 0, 0)
	wantValues(t, s, 2, 44, 0, 0)
	wantDone(t, s.Fill(1, -5))
	wantDone(t, s.Assign(1, 2)) // without the view it is stretched all the same
	wantValues(t, s, 1, 44, 0, 0, 44, 0, 0)
	wantDone(t, s.Set(2, 9, 0)) // the values were taken, not the cells
	wantValues(t, s, 1, 44, 0, 0, 44, 0, 0)
	wantShared(t, s, 1, 2, false)
	wantStore(t, s, api.Int, 10, 6, 6)
	wantStore(t, s, api.Byte, 10, 3, 3)
}

func TestP9AssignKinds(t *testing.T) {
	s := newSpace(t, 30, 30)
	wantMade(t, s, 1, api.Int, 7)
	wantMade(t, s, 2, api.Byte, 7)
	wantMade(t, s, 3, api.Int, 7)
	wantMade(t, s, 4, api.Byte, 7)
	put(t, s, 1, 300, -1, 255, 256, most, least, -257)
	wantDone(t, s.Assign(3, 1))
	wantValues(t, s, 3, 300, -1, 255, 256, most, least, -257)
	wantDone(t, s.Assign(2, 1))
	wantValues(t, s, 2, 44, 255, 255, 0, 255, 0, 255)
	wantDone(t, s.Assign(4, 2))
	wantValues(t, s, 4, 44, 255, 255, 0, 255, 0, 255)
	wantDone(t, s.Assign(1, 4))
	wantValues(t, s, 1, 44, 255, 255, 0, 255, 0, 255)
}

func TestP9AssignStretches(t *testing.T) {
	for _, c := range []struct{ to, from, want []int }{
		{nil, nil, []int{1}},
		{[]int{3}, nil, []int{1, 1, 1}},
		{[]int{2, 2}, nil, []int{1, 1, 1, 1}},
		{[]int{3}, []int{1}, []int{1, 1, 1}},
		{[]int{3}, []int{3}, []int{1, 2, 3}},
		{[]int{2, 3}, []int{3}, []int{1, 2, 3, 1, 2, 3}},
		{[]int{2, 3}, []int{2, 1}, []int{1, 1, 1, 2, 2, 2}},
		{[]int{2, 3}, []int{1, 3}, []int{1, 2, 3, 1, 2, 3}},
		{[]int{2, 3}, []int{1, 1}, []int{1, 1, 1, 1, 1, 1}},
		{[]int{2, 1}, []int{1}, []int{1, 1}},
		{[]int{2, 2, 2}, []int{2, 1}, []int{1, 1, 2, 2, 1, 1, 2, 2}},
		{[]int{2, 2, 2}, []int{2, 1, 2}, []int{1, 2, 1, 2, 3, 4, 3, 4}},
		{[]int{2, 1, 2, 2}, []int{1, 1, 2}, []int{1, 2, 1, 2, 1, 2, 1, 2}},
		{[]int{1, 1, 1, 1}, nil, []int{1}},
	} {
		for _, kinds := range [][2]int{{api.Byte, api.Byte}, {api.Byte, api.Int}, {api.Int, api.Byte}, {api.Int, api.Int}} {
			s := newSpace(t, 20, 20)
			wantMade(t, s, 1, kinds[0], c.to...)
			wantMade(t, s, 2, kinds[1], c.from...)
			count(t, s, 2, 1)
			wantDone(t, s.Assign(1, 2))
			wantValues(t, s, 1, c.want...)
		}
	}
}

func TestP9AssignShapesThatAreNot(t *testing.T) {
	for _, c := range []struct{ to, from []int }{
		{nil, []int{1}}, {nil, []int{2}}, {[]int{3}, []int{2}}, {[]int{1}, []int{3}}, {[]int{3}, []int{1, 3}},
		{[]int{3}, []int{1, 1}}, {[]int{2, 3}, []int{2}}, {[]int{2, 3}, []int{3, 2}}, {[]int{2, 3}, []int{2, 2}},
		{[]int{6}, []int{3}}, {[]int{2, 3}, []int{6}}, {[]int{2, 3}, []int{3, 1}}, {[]int{1, 3}, []int{2, 3}},
		{[]int{2, 2, 2}, []int{1, 2, 2, 2}}, {[]int{2, 3, 2}, []int{2, 1, 3}},
	} {
		s := newSpace(t, 20, 20)
		wantMade(t, s, 1, api.Int, c.to...)
		wantMade(t, s, 2, api.Byte, c.from...)
		count(t, s, 1, 1)
		count(t, s, 2, 100)
		was := everything(s, 3)
		if e := s.Assign(1, 2); e != api.ErrShape {
			t.Errorf("%v by %v: %d", c.to, c.from, e)
		}
		if everything(s, 3) != was {
			t.Errorf("%v by %v changes %s", c.to, c.from, everything(s, 3))
		}
	}
}

func TestP9AssignOverlaps(t *testing.T) { // example 5
	for _, kind := range []int{api.Byte, api.Int} {
		s := newSpace(t, 5, 5)
		wantMade(t, s, 1, kind, 5)
		count(t, s, 1, 1)
		wantNew(t, 2)(s.Cut(1, 0, 0, 4, 1))
		wantNew(t, 3)(s.Cut(1, 0, 1, 4, 1))
		wantNew(t, 4)(s.Cut(1, 0, 4, 5, -1))
		wantNew(t, 5)(s.Cut(1, 0, 0, 1, 1))
		for _, c := range []struct {
			to, from int
			want     []int
		}{
			{3, 2, []int{1, 1, 2, 3, 4}}, {2, 3, []int{2, 3, 4, 5, 5}},
			{1, 4, []int{5, 4, 3, 2, 1}}, {4, 1, []int{5, 4, 3, 2, 1}},
			{1, 1, []int{1, 2, 3, 4, 5}}, {4, 4, []int{1, 2, 3, 4, 5}},
			{1, 5, []int{1, 1, 1, 1, 1}}, {3, 5, []int{1, 1, 1, 1, 1}}, {4, 5, []int{1, 1, 1, 1, 1}},
		} {
			count(t, s, 1, 1)
			wantDone(t, s.Assign(c.to, c.from))
			wantValues(t, s, 1, c.want...)
		}
	}
}

func TestP9AssignTurnedByItself(t *testing.T) {
	s := newSpace(t, 0, 9)
	wantMade(t, s, 1, api.Int, 3, 3)
	count(t, s, 1, 1)
	wantNew(t, 2)(s.Turn(1, 1, 0))
	wantDone(t, s.Assign(1, 2))
	wantValues(t, s, 1, 1, 4, 7, 2, 5, 8, 3, 6, 9)
	wantDone(t, s.Assign(2, 1))
	wantValues(t, s, 1, 1, 2, 3, 4, 5, 6, 7, 8, 9)
	wantNew(t, 3)(s.Cut(1, 1, 1, 1, 1)) // the middle column
	wantDone(t, s.Assign(1, 3))
	wantValues(t, s, 1, 2, 2, 2, 5, 5, 5, 8, 8, 8)
	count(t, s, 1, 1)
	wantNew(t, 4)(s.Cut(1, 0, 2, 1, 1)) // the last row
	wantDone(t, s.Assign(2, 4))
	wantValues(t, s, 1, 7, 7, 7, 8, 8, 8, 9, 9, 9)
}

// wrongHandles: an Int array 1 of 2 3, a read-only view 2 of it, a Byte array 3
// of 4, which is no shape to be stretched to 1's; 4 was freed.
func wrongHandles(t *testing.T) *trellis.Space {
	t.Helper()
	s := newSpace(t, 10, 10)
	wantMade(t, s, 1, api.Int, 2, 3)
	wantNew(t, 2)(s.Stretch(1, 2, 3))
	wantMade(t, s, 3, api.Byte, 4)
	wantMade(t, s, 4, api.Byte)
	wantDone(t, s.Free(4))
	count(t, s, 1, 1)
	count(t, s, 3, 250)
	return s
}

func TestP9AssignRefuses(t *testing.T) {
	s := wrongHandles(t)
	was := everything(s, 5)
	for _, c := range []struct {
		to, from int
		want     api.Errno
	}{
		{4, 1, api.ErrHandle}, {1, 4, api.ErrHandle}, {4, 4, api.ErrHandle}, {0, 1, api.ErrHandle}, {1, 0, api.ErrHandle},
		{5, 1, api.ErrHandle}, {1, 5, api.ErrHandle}, {-1, 1, api.ErrHandle}, {1, -1, api.ErrHandle},
		{most, 1, api.ErrHandle}, {1, most, api.ErrHandle}, {least, 1, api.ErrHandle}, {1, least, api.ErrHandle},
		{2, 4, api.ErrHandle}, {2, 0, api.ErrHandle}, {4, 2, api.ErrHandle}, // ahead of ErrRead
		{2, 1, api.ErrRead}, {2, 2, api.ErrRead}, {2, 3, api.ErrRead}, // ahead of ErrShape
		{1, 3, api.ErrShape}, {3, 1, api.ErrShape}, {3, 2, api.ErrShape},
	} {
		if e := s.Assign(c.to, c.from); e != c.want {
			t.Errorf("Assign(%d, %d) = %d, want %d", c.to, c.from, e, c.want)
		}
	}
	if everything(s, 5) != was {
		t.Errorf("changed:\n%s\nwas:\n%s", everything(s, 5), was)
	}
	wantDone(t, s.Assign(1, 2)) // what is read-only may be read
	wantMade(t, s, 5, api.Int)
}

func TestP9AssignNeedsNoPlaceAndNoHandle(t *testing.T) {
	s := newSpace(t, 0, 2)
	wantMade(t, s, 1, api.Int, 2)
	count(t, s, 1, 1)
	for h := 2; h <= 40; h++ {
		wantNew(t, h)(s.Cut(1, 0, 1, 2, -1))
	}
	wantDone(t, s.Assign(1, 2))
	wantValues(t, s, 1, 2, 1)
	wantDone(t, s.Work(api.Add, 40, 39, 1))
	wantValues(t, s, 1, 3, 3)
	wantStore(t, s, api.Int, 2, 2, 2)
}
