package particulars

import (
	"math/big"
	"math/rand"
	"slices"
	"strings"
	"testing"

	"garboard/api"
	"garboard/attitude"
	"garboard/mesh"
)

// point reads three numbers.
func point(s string) api.Vector {
	words := strings.Fields(s)
	return api.Vector{X: api.Rat(words[0]), Y: api.Rat(words[1]), Z: api.Rat(words[2])}
}

// points reads points that are separated by commas.
func points(s string) []api.Vector {
	var out []api.Vector
	for part := range strings.SplitSeq(s, ",") {
		out = append(out, point(part))
	}
	return out
}

// at reads the heel and the trim.
func at(s string) api.Attitude {
	words := strings.Fields(s)
	return api.Attitude{Heel: api.Rat(words[0]), Trim: api.Rat(words[1])}
}

// fields are where the numbers of particulars are, in their order.
func fields(h *api.Hydro) []*api.Rat {
	return []*api.Rat{&h.Volume, &h.Centre.X, &h.Centre.Y, &h.Centre.Z, &h.Area, &h.Ahead, &h.Side, &h.Along, &h.Across, &h.Mixed}
}

// hydro reads ten numbers.
func hydro(s string) api.Hydro {
	var out api.Hydro
	words := strings.Fields(s)
	for i, field := range fields(&out) {
		*field = api.Rat(words[i])
	}
	return out
}

// need returns a result that has to come without an error.
func need[T any](t *testing.T) func(result T, e api.Errno) T {
	t.Helper()
	return func(result T, e api.Errno) T {
		t.Helper()
		if e != api.OK {
			t.Fatalf("the error %d", e)
		}
		return result
	}
}

func box(t *testing.T, low, high string) api.Solid {
	t.Helper()
	return need[api.Solid](t)(mesh.Box(point(low), point(high)))
}

func prism(t *testing.T, polygon, along string) api.Solid {
	t.Helper()
	return need[api.Solid](t)(mesh.Prism(points(polygon), point(along)))
}

// triple are three coordinates as the tests compute with them.
type triple [3]*big.Rat

func rat(x api.Rat) *big.Rat {
	n, ok := new(big.Rat).SetString(string(x))
	if !ok {
		panic("no number: " + string(x))
	}
	return n
}

func text(x *big.Rat) api.Rat { return api.Rat(x.RatString()) }

func values(r api.Vector) triple { return triple{rat(r.X), rat(r.Y), rat(r.Z)} }

func made(c triple) api.Vector { return api.Vector{X: text(c[0]), Y: text(c[1]), Z: text(c[2])} }

func sum(l ...*big.Rat) *big.Rat {
	out := new(big.Rat)
	for _, x := range l {
		out.Add(out, x)
	}
	return out
}

func product(l ...*big.Rat) *big.Rat {
	out := big.NewRat(1, 1)
	for _, x := range l {
		out.Mul(out, x)
	}
	return out
}

func negative(x *big.Rat) *big.Rat { return new(big.Rat).Neg(x) }

func quotient(x, y *big.Rat) *big.Rat { return new(big.Rat).Quo(x, y) }

func dot(a, b triple) *big.Rat {
	return sum(product(a[0], b[0]), product(a[1], b[1]), product(a[2], b[2]))
}

// added returns a + b part.
func added(a, b api.Vector, part *big.Rat) api.Vector {
	out := values(a)
	for i, x := range values(b) {
		out[i] = sum(out[i], product(x, part))
	}
	return made(out)
}

// convexHulls are whole bodies without a dent.
func convexHulls(t *testing.T) []api.Solid {
	t.Helper()
	return []api.Solid{
		box(t, "0 -2 0", "10 2 3"),
		box(t, "-1/2 -1/3 -7", "5 9/4 1/1000003"),
		prism(t, "0 0 0, 3 0 0, 0 3 0", "0 0 2"),
		prism(t, "0 0 0, 3 0 0, 4 1 0, 2 3/2 0, -1 1 0", "1 1/2 2"),
		prism(t, "0 0 0, 0 2 1, 0 2 3, 0 -2 3, 0 -2 1", "9 1/3 0"),
	}
}

// hulls are closed solids: whole ones, with a step, two beside each other, and inside out.
func hulls(t *testing.T) []api.Solid {
	t.Helper()
	return append(convexHulls(t),
		prism(t, "0 2 0, 10 2 0, 10 2 1, 3 2 1, 3 2 2, 0 2 2", "0 -4 0"),
		slices.Concat(box(t, "0 -3 -1", "7 -1/4 1"), box(t, "0 1/4 -1", "7 3 1")),
		need[api.Solid](t)(mesh.Reverse(box(t, "1 -1 1", "2 1 2"))),
	)
}

// attitudes are those at the ends of the range, upright ones, and some between.
func attitudes() []api.Attitude {
	return []api.Attitude{at("0 0"), at("1/2 0"), at("0 -1/2"), at("1 0"), at("-1/3 1/3"), at("11/54321 -101/997")}
}

// levels returns some between the lowest and the highest point.
func levels(t *testing.T, s api.Solid, a api.Attitude) []api.Rat {
	t.Helper()
	up := need[api.Spot](t)(attitude.Extent(s, a)).Up
	var out []api.Rat
	for _, part := range []*big.Rat{big.NewRat(1, 100), big.NewRat(1, 3), big.NewRat(3, 7), big.NewRat(61, 64)} {
		out = append(out, text(sum(rat(up.Lo), product(part, sum(rat(up.Hi), negative(rat(up.Lo)))))))
	}
	return out
}

// each calls a function for hulls, attitudes and levels, with the particulars.
func each(t *testing.T, l []api.Solid, see func(s api.Solid, a api.Attitude, d api.Rat, h api.Hydro)) {
	t.Helper()
	for _, s := range l {
		for _, a := range attitudes() {
			for _, d := range levels(t, s, a) {
				see(s, a, d, need[api.Hydro](t)(Of(s, a, d)))
			}
		}
	}
}

// random is a number of one of several kinds, which is sometimes 0.
func random(source *rand.Rand) api.Rat {
	return text([]*big.Rat{
		big.NewRat(source.Int63n(3)-1, 1),
		big.NewRat(source.Int63n(41)-20, 1+source.Int63n(9)),
		big.NewRat(source.Int63()-source.Int63(), 1+source.Int63n(1000000000000)),
	}[source.Intn(3)])
}

// randomHydro returns any numbers; they need not be those of a solid. The volume and the area are not 0.
func randomHydro(source *rand.Rand) api.Hydro {
	var out api.Hydro
	for _, field := range fields(&out) {
		*field = random(source)
	}
	for _, field := range []*api.Rat{&out.Volume, &out.Area} {
		for *field == "0" {
			*field = random(source)
		}
	}
	return out
}
