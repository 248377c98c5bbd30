package mass

import (
	"strings"

	"garboard/api"
	"garboard/vector"
)

// This layer computes with numbers as coordinates of vectors. The functions need what is valid, if they do not ask for it.

// sure returns a result that comes without an error.
func sure[T any](result T, _ api.Errno) T { return result }

func zero() api.Vector { return single("0") }

func single(x api.Rat) api.Vector { return api.Vector{X: x, Y: "0", Z: "0"} }

func coordinates(a api.Vector) [3]api.Rat { return [3]api.Rat{a.X, a.Y, a.Z} }

func isValid(x api.Rat) bool { return vector.Valid(single(x)) }

func areValid(l ...api.Vector) bool {
	for _, a := range l {
		if !vector.Valid(a) {
			return false
		}
	}
	return true
}

func plus(x, y api.Rat) api.Rat { return added(single(x), single(y)).X }

func times(x, y api.Rat) api.Rat { return scaled(single(x), y).X }

func added(a, b api.Vector) api.Vector { return sure(vector.Add(a, b)) }

// raised adds a number to each coordinate.
func raised(a api.Vector, x api.Rat) api.Vector { return added(a, api.Vector{X: x, Y: x, Z: x}) }

func scaled(a api.Vector, x api.Rat) api.Vector { return sure(vector.Scale(a, x)) }

func dot(a, b api.Vector) api.Rat { return sure(vector.Dot(a, b)) }

func determinant(t api.Triangle) api.Rat { return sure(vector.Det(t[0], t[1], t[2])) }

// inverse reads the inverse of a number other than 0 from its text: it has the same sign, and its parts are exchanged.
func inverse(x api.Rat) api.Rat {
	size, isNegative := strings.CutPrefix(string(x), "-")
	num, den, isQuotient := strings.Cut(size, "/")
	if !isQuotient {
		den = "1"
	}
	if num != "1" {
		den += "/" + num
	}
	if isNegative {
		den = "-" + den
	}
	return api.Rat(den)
}

// sum adds each half first: so there are few additions of numbers whose denominators have become long. A sum of nothing is the one that is given.
func sum[T any](add func(x, y T) T, none T, l ...T) T {
	switch len(l) {
	case 0:
		return none
	case 1:
		return l[0]
	}
	half := len(l) / 2
	return add(sum(add, none, l[:half]...), sum(add, none, l[half:]...))
}

// isClosed counts how many more edges begin at a point than end there.
func isClosed(section []api.Segment) bool {
	more := map[api.Vector]int{}
	for _, edge := range section {
		more[edge[0]]++
		more[edge[1]]--
	}
	for _, n := range more {
		if n != 0 {
			return false
		}
	}
	return true
}
