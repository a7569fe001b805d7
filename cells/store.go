package cells

import (
	"slices"

	"trellis/api"
)

// buffer is a run of cells that belong together.
type buffer struct {
	start, size int
}

// end is the number behind the last cell.
func (b buffer) end() int { return b.start + b.size }

// Store has cells of one kind. Its buffers stand in the order of their places,
// and cells that belong to none hold 0.
type Store[N Number] struct {
	cells   []N
	buffers []buffer
	ops     ops[N]
}

// NewStore makes a store of so many cells, without buffers.
func NewStore[N Number](size int) *Store[N] {
	return &Store[N]{cells: make([]N, size), ops: newOps[N]()}
}

// Take makes a buffer of so many cells, all of them 0, at the lowest place, and
// tells where it starts, and whether there was a place.
func (s *Store[N]) Take(size int) (int, bool) {
	start, rank := s.lowest(size)
	taken := buffer{start, size}
	if taken.end() > len(s.cells) {
		return 0, false
	}
	s.buffers = slices.Insert(s.buffers, rank, taken)
	return start, true
}

// lowest finds the lowest place for so many cells, as if the store had no end,
// and how many buffers lie ahead of it.
func (s *Store[N]) lowest(size int) (start, rank int) {
	for i, next := range s.buffers {
		if next.start-start >= size {
			return start, i
		}
		start = next.end()
	}
	return start, len(s.buffers)
}

// GiveBack lets the buffer go that starts there.
func (s *Store[N]) GiveBack(start int) {
	for i, gone := range s.buffers {
		if gone.start == start {
			clear(s.cells[gone.start:gone.end()])
			s.buffers = slices.Delete(s.buffers, i, i+1)
			return
		}
	}
}

// Read tells what the cells at these places hold.
func (s *Store[N]) Read(places ...int) []int {
	return read(s.cells, places)
}

// Fill puts a value, taken as a number of the store's kind, into the cells at
// these places.
func (s *Store[N]) Fill(value int, places ...int) {
	fill(s.cells, places, N(value))
}

// Write puts values, taken as numbers of the store's kind, into the cells at
// these places: as many of them as there are places.
func (s *Store[N]) Write(places, values []int) {
	write(s.cells, places, values)
}

// Combine tells what an op makes of two lists of values that are equally long,
// taken as numbers of the store's kind, one by one. The cells stay as they are.
func (s *Store[N]) Combine(op int, a, b []int) []int {
	return combine(a, b, s.ops.of(op))
}

// State tells how the store stands.
func (s *Store[N]) State() api.Store {
	state := api.Store{Cells: len(s.cells)}
	for _, b := range s.buffers {
		state.Used += b.size
		state.Top = b.end()
	}
	return state
}
