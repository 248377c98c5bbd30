package ledger

import (
	"math/big"
	"math/rand"
	"strconv"
	"strings"
	"testing"

	"garboard/api"
)

// point reads three numbers.
func point(s string) api.Vector {
	words := strings.Fields(s)
	return api.Vector{X: api.Rat(words[0]), Y: api.Rat(words[1]), Z: api.Rat(words[2])}
}

// weights reads weights that are separated by commas: the name, the mass, the centre, and both ends.
func weights(s string) []api.Weight {
	var out []api.Weight
	for part := range strings.SplitSeq(s, ",") {
		words := strings.Fields(part)
		out = append(out, api.Weight{Name: words[0], Mass: api.Rat(words[1]), Centre: point(strings.Join(words[2:5], " ")), From: api.Rat(words[5]), To: api.Rat(words[6])})
	}
	return out
}

// example contains the weights of the chapter.
func example() []api.Weight { return weights("hull 30 5 0 1 0 10, crane 10 8 1 4 7 9") }

// need returns a result that has to come without an error.
func need[T any](t *testing.T) func(result T, e api.Errno) T {
	t.Helper()
	return func(result T, e api.Errno) T {
		t.Helper()
		if e != api.OK {
			t.Fatalf("the error %d", e)
		}
		return result
	}
}

// sums is what Total returns.
type sums struct {
	mass   api.Rat
	moment api.Vector
}

func needTotal(t *testing.T, l []api.Weight) sums {
	t.Helper()
	mass, moment, e := Total(l)
	if e != api.OK {
		t.Fatalf("%v: the error %d", l, e)
	}
	return sums{mass, moment}
}

func rat(x api.Rat) *big.Rat {
	n, ok := new(big.Rat).SetString(string(x))
	if !ok {
		panic("no number: " + string(x))
	}
	return n
}

func text(x *big.Rat) api.Rat { return api.Rat(x.RatString()) }

func sum(x, y *big.Rat) *big.Rat { return new(big.Rat).Add(x, y) }

func difference(x, y *big.Rat) *big.Rat { return new(big.Rat).Sub(x, y) }

func product(x, y *big.Rat) *big.Rat { return new(big.Rat).Mul(x, y) }

func quotient(x, y *big.Rat) *big.Rat { return new(big.Rat).Quo(x, y) }

// knownTotal adds coordinate by coordinate.
func knownTotal(l []api.Weight) sums {
	mass := new(big.Rat)
	var moment [3]*big.Rat
	for i := range moment {
		moment[i] = new(big.Rat)
	}
	for _, w := range l {
		mass.Add(mass, rat(w.Mass))
		for i, x := range []api.Rat{w.Centre.X, w.Centre.Y, w.Centre.Z} {
			moment[i].Add(moment[i], product(rat(w.Mass), rat(x)))
		}
	}
	return sums{text(mass), api.Vector{X: text(moment[0]), Y: text(moment[1]), Z: text(moment[2])}}
}

// knownAft multiplies the mass that lies on one metre by how many metres lie aft.
func knownAft(l []api.Weight, x *big.Rat) *big.Rat {
	out := new(big.Rat)
	for _, w := range l {
		from, to := rat(w.From), rat(w.To)
		end := to
		if x.Cmp(end) < 0 {
			end = x
		}
		if end.Cmp(from) > 0 {
			out.Add(out, product(quotient(rat(w.Mass), difference(to, from)), difference(end, from)))
		}
	}
	return out
}

// randomList returns a list of some length. About every fifth mass is 0.
func randomList(source *rand.Rand, length int) []api.Weight {
	number := func() *big.Rat { return big.NewRat(source.Int63n(2001)-1000, 1+source.Int63n(12)) }
	var out []api.Weight
	for i := range length {
		from := number()
		to := sum(from, big.NewRat(1+source.Int63n(50), 1+source.Int63n(5)))
		mass := new(big.Rat)
		if source.Intn(5) > 0 {
			mass.Abs(number())
		}
		centre := api.Vector{X: text(quotient(sum(from, to), big.NewRat(2, 1))), Y: text(number()), Z: text(number())}
		out = append(out, api.Weight{Name: "w." + strconv.Itoa(i), Mass: text(mass), Centre: centre, From: text(from), To: text(to)})
	}
	return out
}

// lists are such of many lengths.
func lists() [][]api.Weight {
	source := rand.New(rand.NewSource(1))
	out := [][]api.Weight{
		nil,
		example(),
		weights("a 0 1 2 3 0 2, b 0 -1/2 0 0 -1 0"),
		weights("a 123456789012345678901234567890 1/2 -1/3 1/1000000007 0 1, A 1/3 -7/2 5 0 -4 -3"),
	}
	for _, length := range []int{1, 1, 2, 3, 5, 8, 20, api.MaxWeights - 1, api.MaxWeights} {
		out = append(out, randomList(source, length))
	}
	return out
}

// places returns numbers before, at, between and behind the ends of weights.
func places(l []api.Weight) []*big.Rat {
	out := []*big.Rat{new(big.Rat), big.NewRat(-1000000, 1), big.NewRat(1000000, 1)}
	for _, w := range l[:min(len(l), 6)] {
		from, length := rat(w.From), difference(rat(w.To), rat(w.From))
		for _, part := range []*big.Rat{big.NewRat(-1, 1000000007), new(big.Rat), big.NewRat(1, 3), big.NewRat(6, 7), big.NewRat(1, 1), big.NewRat(9, 8)} {
			out = append(out, sum(from, product(length, part)))
		}
	}
	return out
}
