package attitude

import (
	"math/big"
	"math/rand"
	"slices"
	"strings"
	"testing"

	"garboard/api"
)

// numbers are coordinates as the tests compute with them.
type numbers [3]*big.Rat

func rat(x api.Rat) *big.Rat {
	n, ok := new(big.Rat).SetString(string(x))
	if !ok {
		panic("no number: " + string(x))
	}
	return n
}

func text(x *big.Rat) api.Rat { return api.Rat(x.RatString()) }

func sum(l ...*big.Rat) *big.Rat {
	out := new(big.Rat)
	for _, x := range l {
		out.Add(out, x)
	}
	return out
}

func product(l ...*big.Rat) *big.Rat {
	out := big.NewRat(1, 1)
	for _, x := range l {
		out.Mul(out, x)
	}
	return out
}

func negative(x *big.Rat) *big.Rat { return new(big.Rat).Neg(x) }

func values(r api.Vector) numbers { return numbers{rat(r.X), rat(r.Y), rat(r.Z)} }

func made(c numbers) api.Vector { return api.Vector{X: text(c[0]), Y: text(c[1]), Z: text(c[2])} }

func dot(a, b numbers) *big.Rat {
	return sum(product(a[0], b[0]), product(a[1], b[1]), product(a[2], b[2]))
}

func difference(a, b numbers) numbers {
	return numbers{sum(a[0], negative(b[0])), sum(a[1], negative(b[1])), sum(a[2], negative(b[2]))}
}

// vectors are those that the chapter defines: ahead, to the side, and up.
func vectors(a api.Attitude) [3]numbers {
	cosine := func(t *big.Rat) *big.Rat {
		square := product(t, t)
		return new(big.Rat).Quo(sum(big.NewRat(1, 1), negative(square)), sum(big.NewRat(1, 1), square))
	}
	sine := func(t *big.Rat) *big.Rat {
		return new(big.Rat).Quo(sum(t, t), sum(big.NewRat(1, 1), product(t, t)))
	}
	p, q := rat(a.Heel), rat(a.Trim)
	return [3]numbers{
		{cosine(q), negative(product(sine(p), sine(q))), product(cosine(p), sine(q))},
		{new(big.Rat), cosine(p), sine(p)},
		{negative(sine(q)), negative(product(sine(p), cosine(q))), product(cosine(p), cosine(q))},
	}
}

// point reads three numbers.
func point(s string) api.Vector {
	words := strings.Fields(s)
	return api.Vector{X: api.Rat(words[0]), Y: api.Rat(words[1]), Z: api.Rat(words[2])}
}

// kinds are random numbers from -1 to 1 of many kinds.
var kinds = []func(*rand.Rand) *big.Rat{
	func(source *rand.Rand) *big.Rat { return big.NewRat(source.Int63n(3)-1, 1) },
	func(source *rand.Rand) *big.Rat { return big.NewRat(source.Int63n(9)-4, 4) },
	func(source *rand.Rand) *big.Rat { return big.NewRat(source.Int63n(201)-100, 100) },
	func(source *rand.Rand) *big.Rat { return big.NewRat(source.Int63()-source.Int63(), 1<<63-1) },
}

func random(source *rand.Rand) *big.Rat { return kinds[source.Intn(len(kinds))](source) }

// attitudes returns those at the ends of the range, upright ones, and random ones.
func attitudes(source *rand.Rand) []api.Attitude {
	var out []api.Attitude
	for _, p := range []api.Rat{"-1", "-1/2", "0", "1/3", "1"} {
		for _, q := range []api.Rat{"-1/2", "-1/7", "0", "1/3", "1/2"} {
			out = append(out, api.Attitude{Heel: p, Trim: q})
		}
	}
	for range 40 {
		out = append(out, api.Attitude{Heel: text(random(source)), Trim: text(product(random(source), big.NewRat(1, 2)))})
	}
	return out
}

// points returns points on the axes, and random ones.
func points(source *rand.Rand, count int) []api.Vector {
	out := []api.Vector{point("0 0 0"), point("1 0 0"), point("0 1 0"), point("0 0 1"), point("7 5 0"), point("-1/3 22/7 123456789012345678901234567890")}
	for range count {
		size := big.NewRat(1+source.Int63n(1000), 1)
		out = append(out, made(numbers{product(size, random(source)), random(source), product(size, random(source))}))
	}
	return out
}

// solids returns triangles of random points, which need not be closed; a point alone; and as many triangles as there may be.
func solids(source *rand.Rand) []api.Solid {
	o := point("1 2 3")
	out := []api.Solid{{{o, o, o}}}
	for _, count := range []int{1, 2, 5, 9} {
		var s api.Solid
		l := points(source, 3*count)
		source.Shuffle(len(l), func(i, k int) { l[i], l[k] = l[k], l[i] })
		for t := range slices.Chunk(l[:3*count], 3) {
			s = append(s, api.Triangle(t))
		}
		out = append(out, s, slices.Concat(s, s))
	}
	return append(out, append(slices.Repeat(out[0], api.MaxTriangles-1), api.Triangle{o, o, point("-1 -2 -3")}))
}

// need returns a result that has to come without an error.
func need[T any](t *testing.T) func(result T, e api.Errno) T {
	t.Helper()
	return func(result T, e api.Errno) T {
		t.Helper()
		if e != api.OK {
			t.Fatalf("the error %d", e)
		}
		return result
	}
}
