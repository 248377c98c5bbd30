package vector

import (
	"math/big"
	"math/rand"
	"testing"

	"garboard/api"
)

// flat is a plane as the tests compute with it.
type flat struct {
	n numbers
	c *big.Rat
}

func (p flat) made() api.Plane { return api.Plane{N: made(p.n), C: text(p.c)} }

// height has the sign of the side.
func (p flat) height(a numbers) *big.Rat { return minusBig(dotted(p.n, a), p.c) }

func isZero(a numbers) bool { return a[0].Sign() == 0 && a[1].Sign() == 0 && a[2].Sign() == 0 }

// planes returns random planes, some of which have one of some points in them.
func planes(source *rand.Rand, points []numbers, count int) []flat {
	var out []flat
	for _, n := range random(source, count) {
		if isZero(n) {
			continue
		}
		p := flat{n, kinds[source.Intn(len(kinds))](source)}
		if source.Intn(2) == 0 {
			p.c = dotted(n, points[source.Intn(len(points))])
		}
		out = append(out, p)
	}
	return out
}

// P11.2
func TestSide(t *testing.T) {
	source := rand.New(rand.NewSource(6))
	points := random(source, 30)
	found := map[int]int{}
	for _, p := range planes(source, points, 60) {
		for _, a := range points {
			want := p.height(a).Sign()
			if got, e := Side(p.made(), made(a)); e != api.OK || got != want {
				t.Errorf("the side of %v with regard to %v is %d instead of %d, %d", made(a), p.made(), got, want, e)
			}
			found[want]++
		}
	}
	if found[-1] < 100 || found[0] < 20 || found[1] < 100 {
		t.Errorf("sides: %v", found)
	}
	// Points that are close to a plane.
	plane := api.Plane{N: api.Vector{X: "1/3", Y: "-2/7", Z: "100000000000000000000"}, C: "5/21"}
	for z, want := range map[api.Rat]int{"0": 0, "1/1000000000000000000000000000000": 1, "-1/1000000000000000000000000000000": -1} {
		if got, e := Side(plane, api.Vector{X: "5/7", Y: "0", Z: z}); e != api.OK || got != want {
			t.Errorf("the side at %s is %d, %d", z, got, e)
		}
	}
}

// P11.2: the plane is the one that the chapter defines, the points are in it, and it looks to where they run counterclockwise.
func TestThrough(t *testing.T) {
	source := rand.New(rand.NewSource(7))
	onLine := 0
	for _, a := range random(source, 12) {
		for _, b := range random(source, 12) {
			for _, c := range append(random(source, 12), a, b, each(a, b, plusBig), each(each(a, a, plusBig), b, minusBig)) {
				n := crossed(each(b, a, minusBig), each(c, a, minusBig))
				got, e := Through(made(a), made(b), made(c))
				if isZero(n) {
					onLine++
					if e != api.ErrZero || got != (api.Plane{}) {
						t.Errorf("%v, %v and %v are on one line, but the plane is %v, %d", made(a), made(b), made(c), got, e)
					}
					continue
				}
				want := flat{n, dotted(n, a)}
				if e != api.OK || got != want.made() || want.height(b).Sign() != 0 || want.height(c).Sign() != 0 {
					t.Errorf("the plane through %v, %v and %v is %v, %d", made(a), made(b), made(c), got, e)
				}
				if side, _ := Side(got, made(each(a, n, plusBig))); side != 1 {
					t.Errorf("the plane through %v, %v and %v looks to the other side", made(a), made(b), made(c))
				}
			}
		}
	}
	if onLine < 100 {
		t.Errorf("only %d times three points were on one line", onLine)
	}
}

// P11.2, P11.4: the crossing is in the plane and between both ends, on their line, and does not depend on the direction.
func TestCrossing(t *testing.T) {
	source := rand.New(rand.NewSource(8))
	points := random(source, 24)
	crossings, ends := 0, 0
	for _, p := range planes(source, points, 40) {
		for i, a := range points {
			for _, b := range points[i:] {
				first, second := p.height(a), p.height(b)
				got, e := Crossing(p.made(), made(a), made(b))
				turned, f := Crossing(p.made(), made(b), made(a))
				if e != f || got != turned {
					t.Errorf("%v crosses %v to %v at %v, %d, or %v, %d", p.made(), made(a), made(b), got, e, turned, f)
				}
				if first.Sign() > 0 == (second.Sign() > 0) {
					if e != api.ErrState || got != (api.Vector{}) {
						t.Errorf("%v crosses %v to %v at %v, %d", p.made(), made(a), made(b), got, e)
					}
					continue
				}
				crossings++
				if first.Sign() == 0 || second.Sign() == 0 {
					ends++
				}
				checkCrossing(t, p, a, b, got, e)
			}
		}
	}
	if crossings < 500 || ends < 20 {
		t.Errorf("%d crossings, of which %d at ends", crossings, ends)
	}
}

func checkCrossing(t *testing.T, p flat, a, b numbers, got api.Vector, e api.Errno) {
	t.Helper()
	if e != api.OK || !Valid(got) {
		t.Errorf("%v crosses %v to %v at %v, %d", p.made(), made(a), made(b), got, e)
		return
	}
	at := numbers{rat(got.X), rat(got.Y), rat(got.Z)}
	from, whole := each(at, a, minusBig), each(b, a, minusBig)
	along := dotted(from, whole)
	if p.height(at).Sign() != 0 || !isZero(crossed(from, whole)) || along.Sign() < 0 || along.Cmp(dotted(whole, whole)) > 0 {
		t.Errorf("%v crosses %v to %v at %v", p.made(), made(a), made(b), got)
	}
}

// An end in the plane is the crossing itself.
func TestCrossingAtAnEnd(t *testing.T) {
	plane := api.Plane{N: api.Vector{X: "1/3", Y: "0", Z: "-7"}, C: "1/6"}
	in, above, below := api.Vector{X: "1/2", Y: "5", Z: "0"}, api.Vector{X: "9", Y: "1/11", Z: "-2"}, api.Vector{X: "0", Y: "1", Z: "1"}
	if got, e := Crossing(plane, in, above); e != api.OK || got != in {
		t.Errorf("%v, %d", got, e)
	}
	for _, other := range []api.Vector{below, in} {
		if got, e := Crossing(plane, in, other); e != api.ErrState || got != (api.Vector{}) {
			t.Errorf("%v, %d", got, e)
		}
	}
}
