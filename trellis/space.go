package trellis

import (
	"trellis/api"
	"trellis/cells"
	"trellis/grid"
)

// store is what a space asks of a store of cells, whatever its kind.
type store interface {
	Take(size int) (int, bool)
	GiveBack(start int)
	Read(places ...int) []int
	Fill(value int, places ...int)
	Write(places, values []int)
	Combine(op int, a, b []int) []int
	State() api.Store
}

// array is what is behind a handle. It never changes while it is there.
type array struct {
	kind     int
	buffer   int // where its buffer starts
	grid     grid.Grid
	readOnly bool
}

// newSpace makes a space without arrays.
func newSpace(bytes, ints int) *Space {
	return &Space{
		bytes:  cells.NewStore[uint8](bytes),
		ints:   cells.NewStore[int64](ints),
		arrays: map[int]array{},
	}
}

// mayHold tells whether a store may have so many cells.
func mayHold(count int) bool {
	return count >= 0 && count <= api.MaxCells
}

// storeOf finds the store of a kind, and tells whether there is such a kind.
func (s *Space) storeOf(kind int) (store, bool) {
	switch kind {
	case api.Byte:
		return s.bytes, true
	case api.Int:
		return s.ints, true
	}
	return nil, false
}

// find tells the array of a handle, with its store.
func (s *Space) find(h int) (array, store, api.Errno) {
	found, ok := s.arrays[h]
	if !ok {
		return array{}, nil, api.ErrHandle
	}
	in, _ := s.storeOf(found.kind)
	return found, in, api.OK
}

// findToWrite is find for calls that write.
func (s *Space) findToWrite(h int) (array, store, api.Errno) {
	found, in, e := s.find(h)
	if e != api.OK {
		return array{}, nil, e
	}
	if found.readOnly {
		return array{}, nil, api.ErrRead
	}
	return found, in, api.OK
}

// findToWork is findToWrite for calls that write all of an array out of others:
// it tells the cells to write, their store, and for each of the others its
// values, stretched. They are new memory, so that writing changes none of them.
func (s *Space) findToWork(h int, from ...int) ([]int, store, [][]int, api.Errno) {
	// ErrHandle of any of them comes ahead of ErrRead.
	others, e := s.findAll(from)
	if e != api.OK {
		return nil, nil, nil, e
	}
	to, in, e := s.findToWrite(h)
	if e != api.OK {
		return nil, nil, nil, e
	}
	values := make([][]int, len(others))
	for i, other := range others {
		over, ok := s.valuesOver(other, to.grid.Shape)
		if !ok {
			return nil, nil, nil, api.ErrShape
		}
		values[i] = over
	}
	return to.grid.Cells(), in, values, api.OK
}

// findAll tells the arrays of handles.
func (s *Space) findAll(handles []int) ([]array, api.Errno) {
	all := make([]array, len(handles))
	for i, h := range handles {
		found, _, e := s.find(h)
		if e != api.OK {
			return nil, e
		}
		all[i] = found
	}
	return all, api.OK
}

// valuesOver tells the values of an array for the indices of a shape, and
// whether it can be stretched to that.
func (s *Space) valuesOver(of array, shape grid.Shape) ([]int, bool) {
	stretched, ok := of.grid.Stretch(shape)
	if !ok {
		return nil, false
	}
	in, _ := s.storeOf(of.kind)
	return in.Read(stretched.Cells()...), true
}

// foldLayers tells what an op makes of the values of layers: the first with the
// second, that with the third, and so on.
func foldLayers(op int, in store, layers []grid.Grid) []int {
	values := in.Read(layers[0].Cells()...)
	for _, next := range layers[1:] {
		values = in.Combine(op, values, in.Read(next.Cells()...))
	}
	return values
}

// isMany tells whether there may be no more arrays.
func (s *Space) isMany() bool {
	return len(s.arrays) >= api.MaxArrays
}

// makeWhole makes an array with a buffer of its own, whose cells are 0.
func (s *Space) makeWhole(kind int, in store, shape grid.Shape) (int, api.Errno) {
	if s.isMany() {
		return 0, api.ErrMany
	}
	start, ok := in.Take(shape.Volume())
	if !ok {
		return 0, api.ErrFull
	}
	return s.add(array{kind: kind, buffer: start, grid: grid.Whole(shape, start)}), api.OK
}

// makeView makes an array that has cells of another one.
func (s *Space) makeView(of array, view grid.Grid) (int, api.Errno) {
	if s.isMany() {
		return 0, api.ErrMany
	}
	of.grid = view
	return s.add(of), api.OK
}

// makeOf makes an array with a buffer of its own, of these values.
func (s *Space) makeOf(kind int, in store, shape grid.Shape, values []int) (int, api.Errno) {
	h, e := s.makeWhole(kind, in, shape)
	if e != api.OK {
		return 0, e
	}
	in.Write(s.arrays[h].grid.Cells(), values)
	return h, api.OK
}

// isUsed tells whether some array has cells of the buffer that starts there.
func (s *Space) isUsed(kind, buffer int) bool {
	for _, user := range s.arrays {
		if user.kind == kind && user.buffer == buffer {
			return true
		}
	}
	return false
}

// add gives an array the next handle.
func (s *Space) add(made array) int {
	s.last++
	s.arrays[s.last] = made
	return s.last
}
