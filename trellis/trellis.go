// Package trellis: arrays of several axes, and views of one another: see DOC.md.
package trellis

import (
	"trellis/api"
	"trellis/cells"
	"trellis/grid"
)

// Space keeps arrays.
type Space struct {
	bytes  *cells.Store[uint8]
	ints   *cells.Store[int64]
	arrays map[int]array // by their handles
	last   int           // the handle of the last array that was ever made
}

// New makes a space (P3).
func New(bytes, ints int) (*Space, api.Errno) {
	if !mayHold(bytes) || !mayHold(ints) {
		return nil, api.ErrArg
	}
	return newSpace(bytes, ints), api.OK
}

// Make makes an array (P4).
func (s *Space) Make(kind int, shape ...int) (int, api.Errno) {
	in, ok := s.storeOf(kind)
	if !ok {
		return 0, api.ErrKind
	}
	sizes, ok := grid.ShapeOf(shape)
	if !ok {
		return 0, api.ErrShape
	}
	return s.makeWhole(kind, in, sizes)
}

// Cut cuts a view along an axis (P5).
func (s *Space) Cut(h, axis, start, count, step int) (int, api.Errno) {
	of, _, e := s.find(h)
	if e != api.OK {
		return 0, e
	}
	cut, ok := of.grid.Cut(axis, start, count, step)
	if !ok {
		return 0, api.ErrRange
	}
	return s.makeView(of, cut)
}

// Turn puts axes in another order (P5).
func (s *Space) Turn(h int, axes ...int) (int, api.Errno) {
	of, _, e := s.find(h)
	if e != api.OK {
		return 0, e
	}
	turned, ok := of.grid.Turn(axes)
	if !ok {
		return 0, api.ErrShape
	}
	return s.makeView(of, turned)
}

// Stretch makes a read-only view of another shape (P5).
func (s *Space) Stretch(h int, shape ...int) (int, api.Errno) {
	of, _, e := s.find(h)
	if e != api.OK {
		return 0, e
	}
	sizes, ok := grid.ShapeOf(shape)
	if !ok {
		return 0, api.ErrShape
	}
	stretched, ok := of.grid.Stretch(sizes)
	if !ok {
		return 0, api.ErrShape
	}
	of.readOnly = true
	return s.makeView(of, stretched)
}

// Reshape makes a view, or a copy, of another shape (P6).
func (s *Space) Reshape(h int, shape ...int) (int, bool, api.Errno) {
	of, in, e := s.find(h)
	if e != api.OK {
		return 0, false, e
	}
	sizes, ok := grid.ShapeOf(shape)
	if !ok || sizes.Volume() != of.grid.Shape.Volume() {
		return 0, false, api.ErrShape
	}
	if view, ok := of.grid.Reshape(sizes); ok {
		made, e := s.makeView(of, view)
		return made, e == api.OK, e
	}
	made, e := s.makeOf(of.kind, in, sizes, in.Read(of.grid.Cells()...))
	return made, false, e
}

// Free lets an array go (P7).
func (s *Space) Free(h int) api.Errno {
	gone, in, e := s.find(h)
	if e != api.OK {
		return e
	}
	delete(s.arrays, h)
	if !s.isUsed(gone.kind, gone.buffer) {
		in.GiveBack(gone.buffer)
	}
	return api.OK
}

// Set sets a value (P8).
func (s *Space) Set(h, value int, index ...int) api.Errno {
	to, in, e := s.findToWrite(h)
	if e != api.OK {
		return e
	}
	cell, ok := to.grid.Cell(index)
	if !ok {
		return api.ErrRange
	}
	in.Fill(value, cell)
	return api.OK
}

// Get tells a value (P8).
func (s *Space) Get(h int, index ...int) (int, api.Errno) {
	from, in, e := s.find(h)
	if e != api.OK {
		return 0, e
	}
	cell, ok := from.grid.Cell(index)
	if !ok {
		return 0, api.ErrRange
	}
	return in.Read(cell)[0], api.OK
}

// Fill sets all values (P8).
func (s *Space) Fill(h, value int) api.Errno {
	to, in, e := s.findToWrite(h)
	if e != api.OK {
		return e
	}
	in.Fill(value, to.grid.Cells()...)
	return api.OK
}

// Assign sets all values by another array's (P9).
func (s *Space) Assign(to, from int) api.Errno {
	places, in, values, e := s.findToWork(to, from)
	if e != api.OK {
		return e
	}
	in.Write(places, values[0])
	return api.OK
}

// Work sets all values by two other arrays' (P9).
func (s *Space) Work(op, to, a, b int) api.Errno {
	if !cells.IsOp(op) {
		return api.ErrArg
	}
	places, in, values, e := s.findToWork(to, a, b)
	if e != api.OK {
		return e
	}
	in.Write(places, in.Combine(op, values[0], values[1]))
	return api.OK
}

// Fold makes an array without an axis (P10).
func (s *Space) Fold(op, h, axis int) (int, api.Errno) {
	if !cells.IsOp(op) || op == api.Sub {
		return 0, api.ErrArg
	}
	of, in, e := s.find(h)
	if e != api.OK {
		return 0, e
	}
	layers, ok := of.grid.Layers(axis)
	if !ok {
		return 0, api.ErrRange
	}
	return s.makeOf(of.kind, in, layers[0].Shape, foldLayers(op, in, layers))
}

// Values tells all values (P11).
func (s *Space) Values(h int) ([]int, api.Errno) {
	from, in, e := s.find(h)
	if e != api.OK {
		return nil, e
	}
	return in.Read(from.grid.Cells()...), api.OK
}

// Look tells what an array is (P11).
func (s *Space) Look(h int) (api.Look, api.Errno) {
	at, _, e := s.find(h)
	if e != api.OK {
		return api.Look{}, e
	}
	return api.Look{Kind: at.kind, Shape: at.grid.Shape.List(), ReadOnly: at.readOnly}, api.OK
}

// Shared tells whether two arrays have a cell in common (P11).
func (s *Space) Shared(a, b int) (bool, api.Errno) {
	both, e := s.findAll([]int{a, b})
	if e != api.OK {
		return false, e
	}
	// Each kind has a store of its own, and the cells of both have the same numbers.
	return both[0].kind == both[1].kind && both[0].grid.Meets(both[1].grid), api.OK
}

// Store tells how a store of cells stands (P11).
func (s *Space) Store(kind int) (api.Store, api.Errno) {
	of, ok := s.storeOf(kind)
	if !ok {
		return api.Store{}, api.ErrKind
	}
	return of.State(), api.OK
}
