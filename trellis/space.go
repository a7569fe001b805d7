package trellis

import (
	"trellis/api"
	"trellis/cells"
	"trellis/grid"
)

// store is what a space asks of a store of cells, whatever its kind.
type store interface {
	Take(size int) (int, bool)
	GiveBack(start int)
	Read(places ...int) []int
	Fill(value int, places ...int)
	Write(places, values []int)
	State() api.Store
}

// array is what is behind a handle. It never changes while it is there.
type array struct {
	kind     int
	buffer   int // where its buffer starts
	grid     grid.Grid
	readOnly bool
}

// newSpace makes a space without arrays.
func newSpace(bytes, ints int) *Space {
	return &Space{
		bytes:  cells.NewStore[uint8](bytes),
		ints:   cells.NewStore[int64](ints),
		arrays: map[int]array{},
	}
}

// mayHold tells whether a store may have so many cells.
func mayHold(count int) bool {
	return count >= 0 && count <= api.MaxCells
}

// storeOf finds the store of a kind, and tells whether there is such a kind.
func (s *Space) storeOf(kind int) (store, bool) {
	switch kind {
	case api.Byte:
		return s.bytes, true
	case api.Int:
		return s.ints, true
	}
	return nil, false
}

// find tells the array of a handle, with its store.
func (s *Space) find(h int) (array, store, api.Errno) {
	found, ok := s.arrays[h]
	if !ok {
		return array{}, nil, api.ErrHandle
	}
	in, _ := s.storeOf(found.kind)
	return found, in, api.OK
}

// findToWrite is find for calls that write.
func (s *Space) findToWrite(h int) (array, store, api.Errno) {
	found, in, e := s.find(h)
	if e != api.OK {
		return array{}, nil, e
	}
	if found.readOnly {
		return array{}, nil, api.ErrRead
	}
	return found, in, api.OK
}

// isMany tells whether there may be no more arrays.
func (s *Space) isMany() bool {
	return len(s.arrays) >= api.MaxArrays
}

// makeWhole makes an array with a buffer of its own, whose cells are 0.
func (s *Space) makeWhole(kind int, in store, shape grid.Shape) (int, api.Errno) {
	if s.isMany() {
		return 0, api.ErrMany
	}
	start, ok := in.Take(shape.Volume())
	if !ok {
		return 0, api.ErrFull
	}
	return s.add(array{kind: kind, buffer: start, grid: grid.Whole(shape, start)}), api.OK
}

// makeView makes an array that has cells of another one.
func (s *Space) makeView(of array, view grid.Grid) (int, api.Errno) {
	if s.isMany() {
		return 0, api.ErrMany
	}
	of.grid = view
	return s.add(of), api.OK
}

// makeCopy makes an array with a buffer of its own, and the values of another one.
func (s *Space) makeCopy(of array, in store, shape grid.Shape) (int, api.Errno) {
	h, e := s.makeWhole(of.kind, in, shape)
	if e != api.OK {
		return 0, e
	}
	in.Write(s.arrays[h].grid.Cells(), in.Read(of.grid.Cells()...))
	return h, api.OK
}

// isUsed tells whether some array has cells of the buffer that starts there.
func (s *Space) isUsed(kind, buffer int) bool {
	for _, user := range s.arrays {
		if user.kind == kind && user.buffer == buffer {
			return true
		}
	}
	return false
}

// add gives an array the next handle.
func (s *Space) add(made array) int {
	s.last++
	s.arrays[s.last] = made
	return s.last
}
