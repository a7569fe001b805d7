package cells

import "trellis/api"

// ops has for each op what it makes of two numbers of a kind.
type ops[N Number] struct {
	add, sub, mul, min, max func(a, b N) N
}

// newOps makes the ops of a kind. Go's numbers wrap round as the kinds do.
func newOps[N Number]() ops[N] {
	return ops[N]{
		add: func(a, b N) N { return a + b },
		sub: func(a, b N) N { return a - b },
		mul: func(a, b N) N { return a * b },
		min: func(a, b N) N { return min(a, b) },
		max: func(a, b N) N { return max(a, b) },
	}
}

// IsOp tells whether there is such an op. Both kinds have the same ones.
func IsOp(op int) bool {
	return op >= api.Add && op <= api.Max
}

// of finds what an op does. It must be one.
func (o ops[N]) of(op int) func(a, b N) N {
	switch op {
	case api.Add:
		return o.add
	case api.Sub:
		return o.sub
	case api.Mul:
		return o.mul
	case api.Min:
		return o.min
	default:
		return o.max
	}
}
