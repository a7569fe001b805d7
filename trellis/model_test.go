package trellis_test

import (
	"math/big"
	"slices"

	"trellis/api"
)

// model is a space told as plainly as can be: each cell knows its buffer, each
// array lists its cells one by one, and there are no steps.
type model struct {
	stores map[int][]spot
	arrays map[int]*plain
	last   int
}

type spot struct {
	buffer int // the handle of the array that it was made for, or 0
	value  int
}

type plain struct {
	kind     int
	shape    []int
	cells    []int
	readOnly bool
}

func newModel(bytes, ints int) *model {
	return &model{
		stores: map[int][]spot{api.Byte: make([]spot, bytes), api.Int: make([]spot, ints)},
		arrays: map[int]*plain{},
	}
}

func volumeOf(shape []int) int {
	volume := 1
	for _, size := range shape {
		volume *= size
	}
	return volume
}

func mayBe(shape []int) bool {
	for _, size := range shape {
		if size < 1 || size > 60 {
			return false
		}
	}
	return len(shape) <= 4 && volumeOf(shape) <= 3600
}

// rank tells how many indices of a shape are ahead of one, or -1, if it is none.
func rank(shape, index []int) int {
	if len(index) != len(shape) {
		return -1
	}
	at := 0
	for axis, i := range index {
		if i < 0 || i >= shape[axis] {
			return -1
		}
		at = at*shape[axis] + i
	}
	return at
}

func (m *model) place(kind, volume int) (int, bool) {
	row := 0
	for i, cell := range m.stores[kind] {
		row++
		if cell.buffer != 0 {
			row = 0
		}
		if row == volume {
			return i + 1 - volume, true
		}
	}
	return 0, false
}

func (m *model) add(made *plain) (int, api.Errno) {
	if len(m.arrays) == 40 {
		return 0, api.ErrMany
	}
	m.last++
	m.arrays[m.last] = made
	return m.last, api.OK
}

func (m *model) make(kind int, shape []int) (int, api.Errno) {
	if kind != api.Byte && kind != api.Int {
		return 0, api.ErrKind
	}
	if !mayBe(shape) {
		return 0, api.ErrShape
	}
	if len(m.arrays) == 40 {
		return 0, api.ErrMany
	}
	start, ok := m.place(kind, volumeOf(shape))
	if !ok {
		return 0, api.ErrFull
	}
	made := &plain{kind: kind, shape: slices.Clone(shape)}
	for cell := start; cell < start+volumeOf(shape); cell++ {
		m.stores[kind][cell] = spot{buffer: m.last + 1}
		made.cells = append(made.cells, cell)
	}
	return m.add(made)
}

func (m *model) free(h int) api.Errno {
	if m.arrays[h] == nil {
		return api.ErrHandle
	}
	delete(m.arrays, h)
	held := map[int]int{}
	for _, a := range m.arrays {
		held[m.stores[a.kind][a.cells[0]].buffer]++
	}
	for _, store := range m.stores {
		for i := range store {
			if held[store[i].buffer] == 0 {
				store[i].buffer = 0
			}
		}
	}
	return api.OK
}

// view makes the array of a shape each of whose indices means an index of a.
func (m *model) view(a *plain, shape []int, readOnly bool, meant func(index []int) []int) (int, api.Errno) {
	made := &plain{kind: a.kind, shape: slices.Clone(shape), readOnly: readOnly || a.readOnly}
	for _, index := range indices(shape) {
		made.cells = append(made.cells, a.cells[rank(a.shape, meant(index))])
	}
	return m.add(made)
}

// end is start + (count - 1) * step, whatever the numbers are.
func end(start, count, step int) *big.Int {
	last := new(big.Int).Sub(big.NewInt(int64(count)), big.NewInt(1))
	last.Mul(last, big.NewInt(int64(step)))
	return last.Add(last, big.NewInt(int64(start)))
}

func (m *model) cut(h, axis, start, count, step int) (int, api.Errno) {
	a := m.arrays[h]
	if a == nil {
		return 0, api.ErrHandle
	}
	if axis < 0 || axis >= len(a.shape) || count < 1 || step == 0 || start < 0 || start >= a.shape[axis] {
		return 0, api.ErrRange
	}
	if to := end(start, count, step); to.Sign() < 0 || to.Cmp(big.NewInt(int64(a.shape[axis]))) >= 0 {
		return 0, api.ErrRange
	}
	shape := slices.Clone(a.shape)
	shape[axis] = count
	return m.view(a, shape, false, func(index []int) []int {
		index[axis] = start + index[axis]*step
		return index
	})
}

func (m *model) turn(h int, axes []int) (int, api.Errno) {
	a := m.arrays[h]
	if a == nil {
		return 0, api.ErrHandle
	}
	if len(axes) != len(a.shape) {
		return 0, api.ErrShape
	}
	for k, axis := range slices.Sorted(slices.Values(axes)) {
		if axis != k {
			return 0, api.ErrShape
		}
	}
	shape := make([]int, len(axes))
	for k, axis := range axes {
		shape[k] = a.shape[axis]
	}
	return m.view(a, shape, false, func(index []int) []int {
		meant := make([]int, len(axes))
		for k, axis := range axes {
			meant[axis] = index[k]
		}
		return meant
	})
}

func (m *model) stretch(h int, shape []int) (int, api.Errno) {
	a := m.arrays[h]
	if a == nil {
		return 0, api.ErrHandle
	}
	if !mayBe(shape) || len(shape) < len(a.shape) {
		return 0, api.ErrShape
	}
	beside := shape[len(shape)-len(a.shape):]
	for axis, size := range a.shape {
		if size != 1 && size != beside[axis] {
			return 0, api.ErrShape
		}
	}
	return m.view(a, shape, true, func(index []int) []int {
		meant := index[len(shape)-len(a.shape):]
		for axis, size := range a.shape {
			if size == 1 {
				meant[axis] = 0
			}
		}
		return meant
	})
}

// isView tells whether cells, in the order of a shape's indices, are those of
// the first one plus a number for each axis times the index's.
func isView(cells, shape []int) bool {
	all := indices(shape)
	numbers := make([]int, len(shape))
	for axis := range shape {
		second := make([]int, len(shape))
		second[axis] = 1
		if at := rank(shape, second); at >= 0 {
			numbers[axis] = cells[at] - cells[0]
		}
	}
	for n, index := range all {
		cell := cells[0]
		for axis, i := range index {
			cell += i * numbers[axis]
		}
		if cell != cells[n] {
			return false
		}
	}
	return true
}

func (m *model) reshape(h int, shape []int) (int, bool, api.Errno) {
	a := m.arrays[h]
	if a == nil {
		return 0, false, api.ErrHandle
	}
	if !mayBe(shape) || volumeOf(shape) != len(a.cells) {
		return 0, false, api.ErrShape
	}
	if isView(a.cells, shape) {
		made, e := m.add(&plain{a.kind, slices.Clone(shape), a.cells, a.readOnly})
		return made, e == api.OK, e
	}
	values := m.values(a)
	made, e := m.make(a.kind, shape)
	for n, value := range values {
		if e == api.OK {
			m.stores[a.kind][m.arrays[made].cells[n]].value = value
		}
	}
	return made, false, e
}

func (m *model) shared(a, b int) (bool, api.Errno) {
	one, other := m.arrays[a], m.arrays[b]
	if one == nil || other == nil {
		return false, api.ErrHandle
	}
	for _, cell := range one.cells {
		if one.kind == other.kind && slices.Contains(other.cells, cell) {
			return true, api.OK
		}
	}
	return false, api.OK
}

func (m *model) set(h, value int, index []int) api.Errno {
	a := m.arrays[h]
	if a == nil {
		return api.ErrHandle
	}
	if a.readOnly {
		return api.ErrRead
	}
	at := rank(a.shape, index)
	if at < 0 {
		return api.ErrRange
	}
	m.stores[a.kind][a.cells[at]].value = a.taken(value)
	return api.OK
}

func (m *model) fill(h, value int) api.Errno {
	a := m.arrays[h]
	if a == nil {
		return api.ErrHandle
	}
	if a.readOnly {
		return api.ErrRead
	}
	for _, cell := range a.cells {
		m.stores[a.kind][cell].value = a.taken(value)
	}
	return api.OK
}

// over tells the values of a for the indices of a shape.
func (m *model) over(a *plain, shape []int) ([]int, bool) {
	lacks := len(shape) - len(a.shape)
	if lacks < 0 {
		return nil, false
	}
	for axis, size := range a.shape {
		if size != 1 && size != shape[lacks+axis] {
			return nil, false
		}
	}
	values := m.values(a)
	var over []int
	for _, index := range indices(shape) {
		meant := index[lacks:]
		for axis, size := range a.shape {
			meant[axis] %= size // 0, where the size is 1
		}
		over = append(over, values[rank(a.shape, meant)])
	}
	return over, true
}

func (m *model) work(op, to int, from ...int) api.Errno {
	if op < 1 || op > 5 {
		return api.ErrArg
	}
	for _, h := range append([]int{to}, from...) {
		if m.arrays[h] == nil {
			return api.ErrHandle
		}
	}
	target := m.arrays[to]
	if target.readOnly {
		return api.ErrRead
	}
	a, fits := m.over(m.arrays[from[0]], target.shape)
	b, fit := m.over(m.arrays[from[1]], target.shape)
	if !fits || !fit {
		return api.ErrShape
	}
	for n, cell := range target.cells {
		m.stores[target.kind][cell].value = target.made(op, a[n], b[n])
	}
	return api.OK
}

// assign is working out the higher one of an array and itself.
func (m *model) assign(to, from int) api.Errno {
	return m.work(api.Max, to, from, from)
}

func (m *model) fold(op, h, axis int) (int, api.Errno) {
	if op < 1 || op > 5 || op == api.Sub {
		return 0, api.ErrArg
	}
	a := m.arrays[h]
	if a == nil {
		return 0, api.ErrHandle
	}
	if axis < 0 || axis >= len(a.shape) {
		return 0, api.ErrRange
	}
	values := m.values(a)
	made, e := m.make(a.kind, slices.Delete(slices.Clone(a.shape), axis, axis+1))
	if e != api.OK {
		return 0, e
	}
	to := m.arrays[made]
	for n, index := range indices(to.shape) {
		value := 0
		for i := range a.shape[axis] {
			next := values[rank(a.shape, slices.Insert(slices.Clone(index), axis, i))]
			if i > 0 {
				next = a.made(op, value, next)
			}
			value = next
		}
		m.stores[a.kind][to.cells[n]].value = value
	}
	return made, api.OK
}

// made is what an op makes of two numbers, worked out by numbers that do not
// wrap round, and taken as a number of the kind then.
func (a *plain) made(op, one, other int) int {
	x, y := big.NewInt(int64(a.taken(one))), big.NewInt(int64(a.taken(other)))
	switch op {
	case api.Add:
		x.Add(x, y)
	case api.Sub:
		x.Sub(x, y)
	case api.Mul:
		x.Mul(x, y)
	case api.Min:
		if y.Cmp(x) < 0 {
			x = y
		}
	case api.Max:
		if y.Cmp(x) > 0 {
			x = y
		}
	}
	x.Mod(x, new(big.Int).Lsh(big.NewInt(1), 64))
	return a.taken(int(x.Uint64()))
}

func (m *model) values(a *plain) []int {
	var values []int
	for _, cell := range a.cells {
		values = append(values, m.stores[a.kind][cell].value)
	}
	return values
}

func (a *plain) taken(value int) int {
	if a.kind == api.Byte {
		return value & 255
	}
	return value
}
