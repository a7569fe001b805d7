package trellis_test

import (
	"testing"

	"trellis/api"
)

func TestP10Fold(t *testing.T) { // example 6
	for _, kind := range []int{api.Byte, api.Int} {
		s := newSpace(t, 100, 100)
		wantMade(t, s, 1, kind, 2, 3)
		put(t, s, 1, 5, 1, 6, 2, 7, 3)
		for i, c := range []struct {
			op, axis int
			want     []int
		}{
			{api.Add, 0, []int{7, 8, 9}}, {api.Add, 1, []int{12, 12}}, {api.Mul, 0, []int{10, 7, 18}}, {api.Mul, 1, []int{30, 42}},
			{api.Min, 0, []int{2, 1, 3}}, {api.Min, 1, []int{1, 2}}, {api.Max, 0, []int{5, 7, 6}}, {api.Max, 1, []int{6, 7}},
		} {
			h := i + 2
			wantNew(t, h)(s.Fold(c.op, 1, c.axis))
			wantValues(t, s, h, c.want...)
			wantLook(t, s, h, kind, false, len(c.want))
			wantShared(t, s, h, 1, false)
		}
		wantStore(t, s, kind, 100, 6+4*5, 6+4*5)
		wantValues(t, s, 1, 5, 1, 6, 2, 7, 3)
		wantDone(t, s.Fill(1, 9))
		wantValues(t, s, 2, 7, 8, 9)
		wantDone(t, s.Fill(2, 4))
		wantValues(t, s, 1, 9, 9, 9, 9, 9, 9)
	}
}

func TestP10FoldEachAxis(t *testing.T) {
	s := newSpace(t, 0, 200)
	wantMade(t, s, 1, api.Int, 2, 3, 1, 4)
	count(t, s, 1, 0)
	for i, c := range []struct{ shape, want []int }{
		{[]int{3, 1, 4}, []int{12, 14, 16, 18, 20, 22, 24, 26, 28, 30, 32, 34}},
		{[]int{2, 1, 4}, []int{12, 15, 18, 21, 48, 51, 54, 57}},
		{[]int{2, 3, 4}, []int{0, 1, 2, 3, 4, 5, 6, 7, 8, 9, 10, 11, 12, 13, 14, 15, 16, 17, 18, 19, 20, 21, 22, 23}},
		{[]int{2, 3, 1}, []int{6, 22, 38, 54, 70, 86}},
	} {
		wantNew(t, i+2)(s.Fold(api.Add, 1, i))
		wantLook(t, s, i+2, api.Int, false, c.shape...)
		wantValues(t, s, i+2, c.want...)
	}
	wantShared(t, s, 1, 4, false) // an axis of size 1 makes a copy too
}

func TestP10FoldWrapsRound(t *testing.T) {
	s := newSpace(t, 100, 100)
	wantMade(t, s, 1, api.Byte, 2, 3)
	put(t, s, 1, 200, 100, 7, 16, 16, 255)
	wantNew(t, 2)(s.Fold(api.Add, 1, 1))
	wantValues(t, s, 2, 51, 31)
	wantNew(t, 3)(s.Fold(api.Mul, 1, 1))
	wantValues(t, s, 3, 224, 0)
	wantNew(t, 4)(s.Fold(api.Max, 1, 1))
	wantValues(t, s, 4, 200, 255)
	wantNew(t, 5)(s.Fold(api.Min, 1, 0))
	wantValues(t, s, 5, 16, 16, 7)
	wantMade(t, s, 6, api.Int, 3, 2)
	put(t, s, 6, most, least, 1, -1, 1, 5)
	wantNew(t, 7)(s.Fold(api.Add, 6, 0))
	wantValues(t, s, 7, least+1, least+4)
	wantNew(t, 8)(s.Fold(api.Mul, 6, 1))
	wantValues(t, s, 8, least, -1, 5)
	wantNew(t, 9)(s.Fold(api.Min, 6, 1))
	wantValues(t, s, 9, least, -1, 1)
	wantNew(t, 10)(s.Fold(api.Max, 6, 0))
	wantValues(t, s, 10, most, 5)
}

func TestP10FoldDownToOneCell(t *testing.T) {
	s := newSpace(t, 0, 40)
	wantMade(t, s, 1, api.Int, 2, 3, 2)
	count(t, s, 1, 1)
	wantNew(t, 2)(s.Fold(api.Add, 1, 1))
	wantValues(t, s, 2, 9, 12, 27, 30)
	wantNew(t, 3)(s.Fold(api.Max, 2, 0))
	wantValues(t, s, 3, 27, 30)
	wantNew(t, 4)(s.Fold(api.Mul, 3, 0))
	wantValues(t, s, 4, 810)
	wantLook(t, s, 4, api.Int, false)
	wantNone(t, api.ErrRange)(s.Fold(api.Add, 4, 0))
	wantDone(t, s.Set(4, 5))
	wantValues(t, s, 3, 27, 30)
	wantMade(t, s, 5, api.Int, 1)
	wantDone(t, s.Set(5, -8, 0))
	for i, op := range []int{api.Add, api.Mul, api.Min, api.Max} {
		wantNew(t, 6+i)(s.Fold(op, 5, 0)) // an op of one value leaves it
		wantValues(t, s, 6+i, -8)
		wantLook(t, s, 6+i, api.Int, false)
		wantShared(t, s, 5, 6+i, false)
	}
}

func TestP10FoldViews(t *testing.T) {
	for _, kind := range []int{api.Byte, api.Int} {
		s := newSpace(t, 100, 100)
		wantMade(t, s, 1, kind, 2, 3)
		count(t, s, 1, 1)
		wantNew(t, 2)(s.Turn(1, 1, 0))
		wantNew(t, 3)(s.Fold(api.Add, 2, 0))
		wantValues(t, s, 3, 6, 15)
		wantNew(t, 4)(s.Fold(api.Mul, 2, 1))
		wantValues(t, s, 4, 4, 10, 18)
		wantNew(t, 5)(s.Cut(1, 1, 2, 2, -2))
		wantNew(t, 6)(s.Fold(api.Add, 5, 0))
		wantValues(t, s, 6, 9, 5)
		wantNew(t, 7)(s.Fold(api.Max, 5, 1))
		wantValues(t, s, 7, 3, 6)
		wantNew(t, 8)(s.Stretch(1, 4, 2, 3))
		wantNew(t, 9)(s.Fold(api.Add, 8, 0)) // one cell is taken as often as it comes
		wantValues(t, s, 9, 4, 8, 12, 16, 20, 24)
		wantLook(t, s, 9, kind, false, 2, 3)
		wantNew(t, 10)(s.Fold(api.Add, 8, 2))
		wantValues(t, s, 10, 6, 15, 6, 15, 6, 15, 6, 15)
		wantLook(t, s, 10, kind, false, 4, 2)
		for _, h := range []int{3, 4, 6, 7, 9, 10} {
			wantShared(t, s, h, 1, false)
			count(t, s, h, 50) // each may be written, and changes no other
		}
		wantValues(t, s, 1, 1, 2, 3, 4, 5, 6)
		wantReadOnly(t, s, 8)
	}
}

func TestP10FoldRefuses(t *testing.T) {
	s := wrongHandles(t)
	was := everything(s, 5)
	for _, c := range []struct {
		op, h, axis int
		want        api.Errno
	}{
		{0, 1, 0, api.ErrArg}, {6, 1, 0, api.ErrArg}, {api.Sub, 1, 0, api.ErrArg}, {-1, 1, 0, api.ErrArg}, {most, 1, 0, api.ErrArg},
		{least, 1, 0, api.ErrArg}, {257, 1, 0, api.ErrArg}, {api.Sub, 4, 0, api.ErrArg}, {0, 4, 9, api.ErrArg}, {api.Sub, 1, 2, api.ErrArg},
		{api.Add, 4, 0, api.ErrHandle}, {api.Add, 0, 0, api.ErrHandle}, {api.Mul, -1, 0, api.ErrHandle}, {api.Max, 5, 0, api.ErrHandle},
		{api.Add, most, -1, api.ErrHandle}, {api.Add, least, 9, api.ErrHandle}, {api.Add, 4, -1, api.ErrHandle},
		{api.Add, 1, 2, api.ErrRange}, {api.Add, 1, -1, api.ErrRange}, {api.Min, 1, 3, api.ErrRange}, {api.Max, 1, 4, api.ErrRange},
		{api.Mul, 1, most, api.ErrRange}, {api.Add, 1, least, api.ErrRange}, {api.Add, 3, 1, api.ErrRange}, {api.Add, 2, 2, api.ErrRange},
	} {
		h, e := s.Fold(c.op, c.h, c.axis)
		if h != 0 || e != c.want {
			t.Errorf("Fold(%d, %d, %d) = %d, %d, want error %d", c.op, c.h, c.axis, h, e, c.want)
		}
	}
	if everything(s, 5) != was {
		t.Errorf("changed:\n%s\nwas:\n%s", everything(s, 5), was)
	}
	wantNew(t, 5)(s.Fold(api.Add, 1, 1))
}

func TestP10FoldManyAndFull(t *testing.T) {
	s := newSpace(t, 0, 6)
	wantMade(t, s, 1, api.Int, 2, 2)
	count(t, s, 1, 1)
	wantMade(t, s, 2, api.Int)
	for h := 3; h <= 40; h++ {
		wantNew(t, h)(s.Turn(1, 1, 0))
	}
	was := everything(s, 41)
	wantNone(t, api.ErrArg)(s.Fold(api.Sub, 41, 2))
	wantNone(t, api.ErrHandle)(s.Fold(api.Add, 41, 2))
	wantNone(t, api.ErrRange)(s.Fold(api.Add, 1, 2))
	wantNone(t, api.ErrMany)(s.Fold(api.Add, 1, 0)) // there is no place either
	if everything(s, 41) != was {
		t.Errorf("changed:\n%s\nwas:\n%s", everything(s, 41), was)
	}
	wantDone(t, s.Free(2))
	wantNew(t, 41)(s.Fold(api.Add, 1, 0))
	wantValues(t, s, 41, 4, 6)
	wantNone(t, api.ErrMany)(s.Fold(api.Add, 1, 0))
	wantDone(t, s.Free(41))
	wantMade(t, s, 42, api.Int)
	wantDone(t, s.Free(40))
	wantNone(t, api.ErrArg)(s.Fold(0, 1, 0))
	wantNone(t, api.ErrRange)(s.Fold(api.Add, 1, -1))
	wantNone(t, api.ErrFull)(s.Fold(api.Add, 1, 0))
	wantStore(t, s, api.Int, 6, 5, 5)
	wantNew(t, 43)(s.Turn(1, 1, 0))
	wantValues(t, s, 42, 0)
}

// A fold lies at the lowest place where it fits, and nothing of what lay there is left.
func TestP10PlaceOfAFold(t *testing.T) {
	s := newSpace(t, 0, 12)
	wantMade(t, s, 1, api.Int, 3)
	wantMade(t, s, 2, api.Int, 2, 3)
	wantMade(t, s, 3, api.Int, 3)
	count(t, s, 2, 1)
	wantDone(t, s.Fill(1, 77))
	wantNone(t, api.ErrFull)(s.Fold(api.Mul, 2, 1))
	wantDone(t, s.Free(1))
	wantNew(t, 4)(s.Fold(api.Mul, 2, 1))
	wantValues(t, s, 4, 6, 120)
	wantStore(t, s, api.Int, 12, 11, 12)
	wantNone(t, api.ErrFull)(s.Fold(api.Mul, 2, 1))
	wantMade(t, s, 5, api.Int)
	wantStore(t, s, api.Int, 12, 12, 12)
	wantValues(t, s, 5, 0)
	wantValues(t, s, 2, 1, 2, 3, 4, 5, 6)
	wantValues(t, s, 3, 0, 0, 0)
}
