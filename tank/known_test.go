package tank

import (
	"math/big"
	"slices"
	"strings"
	"testing"

	"garboard/api"
	"garboard/attitude"
	"garboard/mesh"
)

// point reads three numbers.
func point(s string) api.Vector {
	words := strings.Fields(s)
	return api.Vector{X: api.Rat(words[0]), Y: api.Rat(words[1]), Z: api.Rat(words[2])}
}

// points reads points that are separated by commas.
func points(s string) []api.Vector {
	var out []api.Vector
	for part := range strings.SplitSeq(s, ",") {
		out = append(out, point(part))
	}
	return out
}

// at reads the heel and the trim.
func at(s string) api.Attitude {
	words := strings.Fields(s)
	return api.Attitude{Heel: api.Rat(words[0]), Trim: api.Rat(words[1])}
}

// numbers reads a list of them.
func numbers(s string) []api.Rat {
	var out []api.Rat
	for _, word := range strings.Fields(s) {
		out = append(out, api.Rat(word))
	}
	return out
}

// soundings reads heights and volumes that are separated by colons.
func soundings(s string) []api.Sounding {
	var out []api.Sounding
	for _, word := range strings.Fields(s) {
		height, volume, _ := strings.Cut(word, ":")
		out = append(out, api.Sounding{Height: api.Rat(height), Volume: api.Rat(volume)})
	}
	return out
}

// need returns a result that has to come without an error.
func need[T any](t *testing.T) func(result T, e api.Errno) T {
	t.Helper()
	return func(result T, e api.Errno) T {
		t.Helper()
		if e != api.OK {
			t.Fatalf("the error %d", e)
		}
		return result
	}
}

func box(t *testing.T, low, high string) api.Solid {
	t.Helper()
	return need[api.Solid](t)(mesh.Box(point(low), point(high)))
}

func prism(t *testing.T, polygon, along string) api.Solid {
	t.Helper()
	return need[api.Solid](t)(mesh.Prism(points(polygon), point(along)))
}

func reversed(t *testing.T, s api.Solid) api.Solid {
	t.Helper()
	return need[api.Solid](t)(mesh.Reverse(s))
}

// tetrahedron is a whole body if its points are in this order: o, and the ends of three axes.
func tetrahedron(l []api.Vector) api.Solid {
	return api.Solid{{l[0], l[2], l[1]}, {l[0], l[1], l[3]}, {l[1], l[2], l[3]}, {l[2], l[0], l[3]}}
}

// drum is a prism with some sides.
func drum(t *testing.T, sides int64) api.Solid {
	t.Helper()
	var polygon []api.Vector
	for i := range sides {
		n := 2*i + 1 - sides
		whole := n*n + sides*sides
		polygon = append(polygon, api.Vector{X: "0", Y: text(big.NewRat(2*n*sides, whole)), Z: text(big.NewRat(n*n-sides*sides, whole))})
	}
	return need[api.Solid](t)(mesh.Prism(polygon, point("10 0 0")))
}

func tankOf(s api.Solid) api.Tank {
	return api.Tank{Name: "No.1-P", Space: s, Permeability: "9/10", Density: "41/40"}
}

// example is the tank of the chapter.
func example(t *testing.T) api.Tank {
	t.Helper()
	return tankOf(box(t, "0 -2 0", "10 2 3"))
}

// convexSpaces are whole bodies without a dent.
func convexSpaces(t *testing.T) []api.Solid {
	t.Helper()
	return []api.Solid{
		example(t).Space,
		box(t, "-1/2 -1/3 -7", "5 9/4 1/1000000007"),
		tetrahedron(points("0 0 0, 2 0 0, 0 2 0, 0 0 2")),
		tetrahedron(points("-3 -1/7 0, 20/3 1 1/2, 1 5 -1/9, 2 2 12345/1001")),
		prism(t, "0 0 0, 3 0 0, 4 1 0, 2 3/2 0, -1 1 0", "1 1/2 2"),
	}
}

// spaces are others, too: with a step, with a dent, in two parts, twice the same, and with a part that counts negatively.
func spaces(t *testing.T) []api.Solid {
	t.Helper()
	return append(convexSpaces(t),
		prism(t, "0 2 0, 10 2 0, 10 2 1, 3 2 1, 3 2 2, 0 2 2", "0 -4 0"),
		prism(t, "0 0 0, 3 0 0, 1 1 0, 0 3 0", "1/3 0 2"),
		slices.Concat(box(t, "0 -1 0", "4 1 1"), box(t, "0 -1 3", "4 1 4")),
		slices.Concat(example(t).Space, example(t).Space),
		slices.Concat(example(t).Space, reversed(t, box(t, "1 -2 4", "3 1 6"))),
	)
}

func attitudes() []api.Attitude {
	return []api.Attitude{at("0 0"), at("1/2 0"), at("0 1/2"), at("1 0"), at("-1 -1/2"), at("1/3 -1/3"), at("12345/54322 -101/997")}
}

func rat(x api.Rat) *big.Rat {
	n, ok := new(big.Rat).SetString(string(x))
	if !ok {
		panic("no number: " + string(x))
	}
	return n
}

func text(x *big.Rat) api.Rat { return api.Rat(x.RatString()) }

func sum(x, y *big.Rat) *big.Rat { return new(big.Rat).Add(x, y) }

func difference(x, y *big.Rat) *big.Rat { return new(big.Rat).Sub(x, y) }

func product(x, y *big.Rat) *big.Rat { return new(big.Rat).Mul(x, y) }

func quotient(x, y *big.Rat) *big.Rat { return new(big.Rat).Quo(x, y) }

// knownVolume is a sixth of the sum of the determinants.
func knownVolume(s api.Solid) *big.Rat {
	out := new(big.Rat)
	for _, t := range s {
		var r [3][3]*big.Rat
		for i, p := range t {
			r[i] = [3]*big.Rat{rat(p.X), rat(p.Y), rat(p.Z)}
		}
		for i := range 3 {
			k, l := (i+1)%3, (i+2)%3
			minor := difference(product(r[1][k], r[2][l]), product(r[1][l], r[2][k]))
			out.Add(out, product(r[0][i], minor))
		}
	}
	return quotient(out, big.NewRat(6, 1))
}

// depthsOf returns some levels below, in and above a space.
func depthsOf(t *testing.T, s api.Solid, a api.Attitude) []api.Rat {
	t.Helper()
	up := need[api.Spot](t)(attitude.Extent(s, a)).Up
	var out []api.Rat
	for _, part := range []*big.Rat{big.NewRat(-1, 3), new(big.Rat), big.NewRat(1, 9), big.NewRat(2, 7), big.NewRat(1, 2), big.NewRat(6, 7), big.NewRat(1, 1), big.NewRat(3, 2)} {
		out = append(out, text(sum(rat(up.Lo), product(difference(rat(up.Hi), rat(up.Lo)), part))))
	}
	return out
}

// straight returns the volume at a height on the line through two soundings.
func straight(low, high api.Sounding, height *big.Rat) *big.Rat {
	slope := quotient(difference(rat(high.Volume), rat(low.Volume)), difference(rat(high.Height), rat(low.Height)))
	return sum(rat(low.Volume), product(slope, difference(height, rat(low.Height))))
}

// knownRead looks at one pair of soundings after the other.
func knownRead(l []api.Sounding, height *big.Rat) (api.Rat, api.Errno) {
	for i := 1; i < len(l); i++ {
		if rat(l[i-1].Height).Cmp(height) <= 0 && height.Cmp(rat(l[i].Height)) <= 0 {
			return text(straight(l[i-1], l[i], height)), api.OK
		}
	}
	return "", api.ErrRange
}

// knownHeight joins what each pair of soundings has of heights with a volume.
func knownHeight(l []api.Sounding, volume *big.Rat) (api.Interval, api.Errno) {
	var found []*big.Rat
	for i := 1; i < len(l); i++ {
		low, high := l[i-1], l[i]
		if rat(low.Volume).Cmp(volume) > 0 || volume.Cmp(rat(high.Volume)) > 0 {
			continue
		}
		if low.Volume == high.Volume {
			found = append(found, rat(low.Height), rat(high.Height))
			continue
		}
		slope := quotient(difference(rat(high.Height), rat(low.Height)), difference(rat(high.Volume), rat(low.Volume)))
		found = append(found, sum(rat(low.Height), product(slope, difference(volume, rat(low.Volume)))))
	}
	if found == nil {
		return api.Interval{}, api.ErrRange
	}
	return api.Interval{Lo: text(slices.MinFunc(found, (*big.Rat).Cmp)), Hi: text(slices.MaxFunc(found, (*big.Rat).Cmp))}, api.OK
}
