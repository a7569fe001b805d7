package trellis_test

import (
	"testing"

	"trellis/api"
)

func TestP5Cut(t *testing.T) { // examples 1 and 2
	s := newSpace(t, 100, 10)
	wantMade(t, s, 1, api.Int, 2, 3)
	count(t, s, 1, 10)
	wantNew(t, 2)(s.Cut(1, 1, 2, 3, -1))
	wantLook(t, s, 2, api.Int, false, 2, 3)
	wantValues(t, s, 2, 12, 11, 10, 15, 14, 13)
	wantNew(t, 3)(s.Cut(1, 0, 1, 1, 1))
	wantLook(t, s, 3, api.Int, false, 1, 3)
	wantValues(t, s, 3, 13, 14, 15)
	wantNew(t, 4)(s.Cut(1, 1, 0, 2, 2))
	wantValues(t, s, 4, 10, 12, 13, 15)
	wantDone(t, s.Set(2, 99, 1, 0))
	wantValues(t, s, 1, 10, 11, 12, 13, 14, 99)
	wantValues(t, s, 3, 13, 14, 99)
	wantValues(t, s, 4, 10, 12, 13, 99)
	wantDone(t, s.Fill(4, 0))
	wantValues(t, s, 1, 0, 11, 0, 0, 14, 0)
	wantStore(t, s, api.Int, 10, 6, 6)
}

func TestP5CutOneIndexByAnyStep(t *testing.T) {
	s := newSpace(t, 5, 0)
	wantMade(t, s, 1, api.Byte, 5)
	count(t, s, 1, 1)
	for i, step := range []int{1, -1, 5, 77, 1 << 62, most, least, least + 1} {
		h := 2 + 3*i
		wantNew(t, h)(s.Cut(1, 0, 3, 1, step))
		wantLook(t, s, h, api.Byte, false, 1)
		wantValues(t, s, h, 4)
		wantNew(t, h+1)(s.Cut(h, 0, 0, 1, step))
		wantValues(t, s, h+1, 4)
		wantNew(t, h+2)(s.Stretch(h, 3))
		wantValues(t, s, h+2, 4, 4, 4)
	}
	wantNone(t, api.ErrRange)(s.Cut(1, 0, 3, 1, 0))
}

func TestP5CutRefuses(t *testing.T) {
	s := newSpace(t, 0, 100)
	wantMade(t, s, 1, api.Int, 6, 2)
	for _, c := range [][4]int{
		{-1, 0, 1, 1}, {2, 0, 1, 1}, {4, 0, 1, 1}, {5, 0, 1, 1}, {most, 0, 1, 1}, {least, 0, 1, 1},
		{0, 0, 0, 1}, {0, 0, -1, 1}, {0, 0, least, 1}, {0, 0, 7, 1}, {0, 0, most, 1}, {0, 5, least, 1},
		{0, 6, 1, 1}, {0, -1, 1, 1}, {0, -1, 2, 1}, {0, 6, 2, -1}, {0, most, 1, 1}, {0, least, 1, 1}, {1, 2, 1, 1},
		{0, 0, 1, 0}, {0, 0, 2, 0}, {0, 5, 6, 0}, {1, 0, 2, 2},
		{0, 0, 4, 2}, {0, 5, 2, 1}, {0, 0, 2, -1}, {0, 4, 6, -1}, {0, 1, 6, 1}, {0, 5, 3, -3},
		{0, 0, 2, 1 << 62}, {0, 0, 3, most}, {0, 1, 3, most}, {0, 0, 5, 1 << 62}, {0, 5, 5, least}, {0, 0, 3, least},
		{0, 0, 1 << 62, 4}, {0, 0, 1<<62 + 1, 4}, {0, 0, 1<<32 + 1, 1 << 32}, {0, 1, most, 2}, {0, 2, most, most},
		{0, 5, 1<<62 + 1, -4}, {0, 5, most, least}, {0, 2, least + 1, least},
	} {
		wantNone(t, api.ErrRange)(s.Cut(1, c[0], c[1], c[2], c[3]))
	}
	wantMade(t, s, 2, api.Int)
	wantNone(t, api.ErrRange)(s.Cut(2, 0, 0, 1, 1))
	wantMade(t, s, 3, api.Int, 1, 1, 1, 1)
	wantNone(t, api.ErrRange)(s.Cut(3, 4, 0, 1, 1))
	wantStore(t, s, api.Int, 100, 14, 14)
}

func TestP14CutTwice(t *testing.T) {
	s := newSpace(t, 0, 60)
	wantMade(t, s, 1, api.Int, 3, 20)
	count(t, s, 1, 0)
	wantNew(t, 2)(s.Cut(1, 1, 18, 7, -3)) // 18 15 12 9 6 3 0
	wantNew(t, 3)(s.Cut(2, 1, 5, 3, -2))  // of these 5 3 1
	wantNew(t, 4)(s.Cut(1, 1, 3, 3, 6))
	wantValues(t, s, 4, 3, 9, 15, 23, 29, 35, 43, 49, 55)
	wantSame(t, s, 3, 4)
	wantNew(t, 5)(s.Cut(3, 0, 2, 2, -2))
	wantNew(t, 6)(s.Cut(1, 0, 2, 2, -2))
	wantNew(t, 7)(s.Cut(6, 1, 3, 3, 6))
	wantSame(t, s, 5, 7)
	wantNew(t, 8)(s.Cut(5, 1, 2, 3, -1))
	wantNew(t, 9)(s.Cut(8, 0, 1, 2, -1))
	wantNew(t, 10)(s.Cut(4, 0, 0, 2, 2))
	wantNew(t, 11)(s.Cut(10, 1, 2, 3, -1))
	wantSame(t, s, 9, 11)
	wantStore(t, s, api.Int, 60, 60, 60)
}
