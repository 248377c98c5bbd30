package matrix

import (
	"slices"

	"garboard/api"
)

// Det returns the determinant.
func Det(a [][]api.Rat) (api.Rat, api.Errno) {
	if e := checkSquare(a); e != api.OK {
		return "", e
	}
	t := newTable(a)
	t.eliminate(0, len(a))
	return t.determinant(), api.OK
}

// Rank returns the rank.
func Rank(a [][]api.Rat) (int, api.Errno) {
	if e := Check(a); e != api.OK {
		return 0, e
	}
	t := newTable(a)
	columns := len(a[0])
	for column := 0; column < columns; column++ {
		column = t.eliminate(column, columns)
	}
	return t.rank, api.OK
}

// Solve returns the solution of equations.
func Solve(a [][]api.Rat, b []api.Rat) ([]api.Rat, api.Errno) {
	if e := checkValues(a, b); e != api.OK {
		return nil, e
	}
	if len(a[0]) != len(a) || len(b) != len(a) {
		return nil, api.ErrMismatch
	}
	x, e := solve(a, turn([][]api.Rat{b}))
	if e != api.OK {
		return nil, e
	}
	return turn(x)[0], api.OK
}

// Inverse returns the inverse matrix.
func Inverse(a [][]api.Rat) ([][]api.Rat, api.Errno) {
	if e := checkSquare(a); e != api.OK {
		return nil, e
	}
	return solve(a, unit(len(a)))
}

func unit(size int) [][]api.Rat {
	out := make([][]api.Rat, size)
	for i := range out {
		out[i] = slices.Repeat([]api.Rat{"0"}, size)
		out[i][i] = "1"
	}
	return out
}

// Fit returns the least squares solution and the residual.
func Fit(a [][]api.Rat, b []api.Rat) ([]api.Rat, api.Rat, api.Errno) {
	if e := checkValues(a, b); e != api.OK {
		return nil, "", e
	}
	if len(b) != len(a) {
		return nil, "", api.ErrMismatch
	}
	columns := turn(a)
	x, e := solve(product(columns, a), product(columns, turn([][]api.Rat{b})))
	if e != api.OK {
		return nil, "", e
	}
	solution := turn(x)[0]
	return solution, residual(a, b, solution), api.OK
}

func residual(a [][]api.Rat, b, x []api.Rat) api.Rat {
	var differences []api.Rat
	for i, row := range a {
		differences = append(differences, minus(scalar(row, x), b[i]))
	}
	return scalar(differences, differences)
}

// solve returns the matrix whose product with a square one is another one.
func solve(a, b [][]api.Rat) ([][]api.Rat, api.Errno) {
	rows := make([][]api.Rat, len(a))
	for i, row := range a {
		rows[i] = slices.Concat(row, b[i])
	}
	t := newTable(rows)
	if t.eliminate(0, len(a)) < len(a) {
		return nil, api.ErrSingular
	}
	return t.solution(), api.OK
}
