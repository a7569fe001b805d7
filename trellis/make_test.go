package trellis_test

import (
	"testing"

	"trellis/api"
	"trellis/trellis"
)

func TestP3New(t *testing.T) {
	for _, n := range [][2]int{{0, 0}, {1, 0}, {0, 1}, {100, 10}, {10000, 10000}} {
		s := newSpace(t, n[0], n[1])
		wantStore(t, s, api.Byte, n[0], 0, 0)
		wantStore(t, s, api.Int, n[1], 0, 0)
		wantNoArray(t, s, 1)
	}
}

func TestP3NewRefuses(t *testing.T) {
	for _, n := range [][2]int{
		{-1, 0}, {0, -1}, {10001, 0}, {0, 10001}, {-1, 10001}, {most, 1}, {1, most}, {least, 1}, {1, least},
	} {
		if s, e := trellis.New(n[0], n[1]); s != nil || e != api.ErrArg {
			t.Errorf("New(%d, %d) = %v, %d", n[0], n[1], s, e)
		}
	}
}

func TestP3HandlesGoOn(t *testing.T) {
	s := newSpace(t, 10, 10)
	wantMade(t, s, 1, api.Byte, 2)
	wantMade(t, s, 2, api.Int)
	wantNotMade(t, s, api.ErrKind, 0)
	wantNotMade(t, s, api.ErrShape, api.Int, 0)
	wantNotMade(t, s, api.ErrFull, api.Int, 10)
	wantMade(t, s, 3, api.Int)
	wantDone(t, s.Free(3))
	wantMade(t, s, 4, api.Int)
	wantMade(t, newSpace(t, 1, 1), 1, api.Int)
}

func TestP3NoSuchHandle(t *testing.T) {
	s := newSpace(t, 10, 10)
	wantMade(t, s, 1, api.Int, 2)
	wantMade(t, s, 2, api.Int, 2)
	wantDone(t, s.Free(1))
	for _, h := range []int{0, -1, 1, 3, 41, most, least} {
		wantNoArray(t, s, h)
	}
	wantValues(t, s, 2, 0, 0)
	wantStore(t, s, api.Int, 10, 2, 4)
}

func TestP3Many(t *testing.T) {
	s := newSpace(t, 10000, 20)
	for i := range 20 {
		wantMade(t, s, 2*i+1, api.Int)
		wantMade(t, s, 2*i+2, api.Byte, 2)
	}
	wantNotMade(t, s, api.ErrKind, 3, 0)
	wantNotMade(t, s, api.ErrShape, api.Int, 0)
	wantNotMade(t, s, api.ErrMany, api.Int)
	wantNotMade(t, s, api.ErrMany, api.Byte)
	wantStore(t, s, api.Int, 20, 20, 20)
	wantStore(t, s, api.Byte, 10000, 40, 40)
	wantDone(t, s.Free(2))
	wantNotMade(t, s, api.ErrFull, api.Int)
	wantMade(t, s, 41, api.Byte, 3)
	wantNotMade(t, s, api.ErrMany, api.Byte)
}

func TestP4Make(t *testing.T) {
	s := newSpace(t, 10000, 10000)
	volumes := 0
	for i, c := range []struct {
		shape  []int
		volume int
	}{
		{nil, 1}, {[]int{1}, 1}, {[]int{60}, 60}, {[]int{2, 3}, 6}, {[]int{1, 1, 1, 1}, 1},
		{[]int{2, 3, 4, 5}, 120}, {[]int{60, 60}, 3600}, {[]int{1, 60, 1, 60}, 3600},
	} {
		wantMade(t, s, 2*i+1, api.Byte, c.shape...)
		wantMade(t, s, 2*i+2, api.Int, c.shape...)
		wantValues(t, s, 2*i+1, make([]int, c.volume)...)
		wantValues(t, s, 2*i+2, make([]int, c.volume)...)
		volumes += c.volume
		wantStore(t, s, api.Byte, 10000, volumes, volumes)
		wantStore(t, s, api.Int, 10000, volumes, volumes)
	}
}

func TestP4MakeRefuses(t *testing.T) {
	s := newSpace(t, 0, 3599)
	for _, kind := range []int{0, 3, -1, most, least} {
		wantNotMade(t, s, api.ErrKind, kind)
		wantNotMade(t, s, api.ErrKind, kind, 0)
	}
	for _, shape := range [][]int{
		{0}, {61}, {-1}, {3, 0}, {0, 3}, {1, 1, 1, 1, 1}, {60, 60, 2}, {60, 61}, {60, 60, 60, 60},
		{1 << 62, 4}, {1 << 32, 1 << 32}, {most}, {least}, {least, 2}, make([]int, 100),
	} {
		wantNotMade(t, s, api.ErrShape, api.Byte, shape...)
		wantNotMade(t, s, api.ErrShape, api.Int, shape...)
	}
	wantNotMade(t, s, api.ErrFull, api.Byte)
	wantNotMade(t, s, api.ErrFull, api.Int, 60, 60)
	wantStore(t, s, api.Int, 3599, 0, 0)
	wantMade(t, s, 1, api.Int, 59, 60)
}

func TestP4All10000Cells(t *testing.T) {
	s := newSpace(t, 10000, 10000)
	for _, kind := range []int{api.Byte, api.Int} {
		for range 2 {
			if _, e := s.Make(kind, 60, 60); e != api.OK {
				t.Fatalf("error %d", e)
			}
		}
		wantNotMade(t, s, api.ErrFull, kind, 60, 60)
		last, e := s.Make(kind, 56, 50)
		if e != api.OK {
			t.Fatalf("error %d", e)
		}
		wantStore(t, s, kind, 10000, 10000, 10000)
		wantDone(t, s.Set(last, 77, 55, 49))
		if v, e := s.Get(last, 55, 49); v != 77 || e != api.OK {
			t.Errorf("Get = %d, %d", v, e)
		}
		wantNotMade(t, s, api.ErrFull, kind)
	}
}

func TestP4LowestPlace(t *testing.T) { // example 7
	for _, c := range []struct{ volume, used, top int }{{3, 6, 6}, {4, 7, 10}} {
		s := newSpace(t, 0, 10)
		wantMade(t, s, 1, api.Int, 3)
		wantMade(t, s, 2, api.Int, 3)
		wantDone(t, s.Free(1))
		wantStore(t, s, api.Int, 10, 3, 6)
		wantNotMade(t, s, api.ErrFull, api.Int, 10)
		wantNotMade(t, s, api.ErrFull, api.Int, 5)
		wantMade(t, s, 3, api.Int, c.volume)
		wantStore(t, s, api.Int, 10, c.used, c.top)
	}
}

func TestP4CellsAreZeroAgain(t *testing.T) {
	for _, kind := range []int{api.Byte, api.Int} {
		s := newSpace(t, 4, 4)
		wantMade(t, s, 1, kind, 4)
		wantDone(t, s.Fill(1, 9))
		wantDone(t, s.Free(1))
		wantMade(t, s, 2, kind, 2, 2)
		wantValues(t, s, 2, 0, 0, 0, 0)
	}
}
