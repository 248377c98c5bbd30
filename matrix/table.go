package matrix

import (
	"slices"

	"garboard/api"
)

// table are rows of integers on their way to a staircase: the numbers below the pivots of the first rows are 0.
type table struct {
	rows  [][]api.Rat
	rank  int     // how many rows have a pivot
	last  api.Rat // the last pivot
	scale api.Rat // by which the determinant was multiplied, because rows were multiplied or exchanged
}

func newTable(rows [][]api.Rat) *table {
	t := &table{rows: copyRows(rows), last: "1", scale: "1"}
	for _, row := range t.rows {
		t.makeWhole(row)
	}
	return t
}

func copyRows[T any](rows [][]T) [][]T {
	out := make([][]T, len(rows))
	for i, row := range rows {
		out[i] = slices.Clone(row)
	}
	return out
}

// makeWhole multiplies a row such that its numbers become integers, because sums of these need no common denominators.
func (t *table) makeWhole(row []api.Rat) {
	for k := range row {
		factor := denominator(row[k])
		if factor == "1" {
			continue
		}
		for i, x := range row {
			row[i] = times(factor, x)
		}
		t.scale = times(factor, t.scale)
	}
}

// eliminate goes from one column on until one has no pivot, or to an end, and returns where it has come to.
func (t *table) eliminate(column, end int) int {
columns:
	for ; column < end && t.rank < len(t.rows); column++ {
		found := t.rank
		for t.rows[found][column] == "0" {
			found++
			if found == len(t.rows) {
				break columns
			}
		}
		t.raise(found)
		t.clear(column)
	}
	return column
}

// raise makes a row the first one of those without a pivot.
func (t *table) raise(row int) {
	if row == t.rank {
		return
	}
	t.rows[t.rank], t.rows[row] = t.rows[row], t.rows[t.rank]
	t.scale = minus("0", t.scale)
}

// clear makes the numbers below a pivot 0. This is Bareiss's way: all numbers stay determinants of parts of the matrix, so that the division by the pivot before gives integers again, and they are no longer than need be.
func (t *table) clear(column int) {
	first, others := t.rows[t.rank], t.rows[t.rank+1:]
	pivot := first[column]
	for _, row := range others {
		factor := row[column]
		for k := column; k < len(row); k++ {
			row[k] = over(minus(times(pivot, row[k]), times(factor, first[k])), t.last)
		}
	}
	t.last = pivot
	t.rank++
}

// determinant needs as many columns as rows, which were eliminated as far as possible.
func (t *table) determinant() api.Rat {
	if t.rank < len(t.rows) {
		return "0"
	}
	return over(t.last, t.scale)
}

// solution returns what the columns behind the first ones, each of which needs a pivot, become if those become the unit matrix. Times the last pivot it consists of integers (Cramer's rule), so that there are no common denominators before the end.
func (t *table) solution() [][]api.Rat {
	size := len(t.rows)
	out := make([][]api.Rat, size)
	for i := size - 1; i >= 0; i-- {
		row := t.rows[i]
		for k, x := range row[size:] {
			rest := times(t.last, x)
			for j := i + 1; j < size; j++ {
				rest = minus(rest, times(row[j], out[j][k]))
			}
			out[i] = append(out[i], over(rest, row[i]))
		}
	}
	for _, row := range out {
		for k, x := range row {
			row[k] = over(x, t.last)
		}
	}
	return out
}
