// Package cells: stores of cells, written once for both kinds of numbers.
package cells

// Number is what a cell may hold: a Byte or an Int.
type Number interface {
	uint8 | int64
}

// read tells what cells at these places hold, in new memory.
func read[N Number](from []N, places []int) []int {
	values := make([]int, len(places))
	for i, place := range places {
		values[i] = int(from[place])
	}
	return values
}

// fill puts one value into the cells at these places.
func fill[N Number](to []N, places []int, value N) {
	for _, place := range places {
		to[place] = value
	}
}

// combine tells what do makes of two lists of values, each taken as a number of
// the kind, in new memory.
func combine[N Number](a, b []int, do func(a, b N) N) []int {
	made := make([]int, len(a))
	for i := range made {
		made[i] = int(do(N(a[i]), N(b[i])))
	}
	return made
}

// write puts values, each taken as a number of the kind, into the cells at
// these places, one each.
func write[N Number](to []N, places, values []int) {
	for i, place := range places {
		to[place] = N(values[i])
	}
}
