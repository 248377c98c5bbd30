package mesh

import (
	"garboard/api"
	"garboard/vector"
)

// edge is a directed edge.
type edge struct{ from, to api.Vector }

func (e edge) opposite() edge { return edge{e.to, e.from} }

// isClosed counts how many more edges run in a direction than in the opposite one.
func isClosed(s api.Solid) bool {
	more := map[edge]int{}
	for _, t := range s {
		for i, p := range t {
			e := edge{p, t[(i+1)%len(t)]}
			if e.from == e.to {
				continue
			}
			more[e]++
			more[e.opposite()]--
		}
	}
	for _, n := range more {
		if n != 0 {
			return false
		}
	}
	return true
}

// distinct returns the different points, in the order of their first occurrence.
func distinct(s api.Solid) []api.Vector {
	var out []api.Vector
	found := map[api.Vector]bool{}
	for _, t := range s {
		for _, p := range t {
			if !found[p] {
				found[p] = true
				out = append(out, p)
			}
		}
	}
	return out
}

// changed computes each point once, in however many triangles it is.
func changed(s api.Solid, change func(api.Vector) api.Vector) api.Solid {
	known := map[api.Vector]api.Vector{}
	for _, p := range distinct(s) {
		known[p] = change(p)
	}
	var out api.Solid
	for _, t := range s {
		out = append(out, api.Triangle{known[t[0]], known[t[1]], known[t[2]]})
	}
	return out
}

// reversed returns triangles with their last two points exchanged.
func reversed(l []api.Triangle) api.Solid {
	var out api.Solid
	for _, t := range l {
		out = append(out, api.Triangle{t[0], t[2], t[1]})
	}
	return out
}

// shells counts the triangles that stand for their shell. To begin with each one does; later on it points to another triangle with which it has a point in common, or to one that stands for both.
func shells(s api.Solid) int {
	leader := make([]int, len(s))
	count := len(s)
	first := map[api.Vector]int{}
	for i, t := range s {
		leader[i] = i
		for _, p := range t {
			k, isKnown := first[p]
			if !isKnown {
				first[p] = i
				continue
			}
			if a, b := follow(leader, k), follow(leader, i); a != b {
				leader[a] = b
				count--
			}
		}
	}
	return count
}

func follow(leader []int, i int) int {
	for leader[i] != i {
		i = leader[i]
	}
	return i
}

// image is that of a point at the plane y = 0.
func image(p api.Vector) api.Vector {
	return api.Vector{X: p.X, Y: scaled(p, "-1").Y, Z: p.Z}
}

// The following functions need what is valid, so that there are no errors.

func sum(p, v api.Vector) api.Vector {
	out, _ := vector.Add(p, v)
	return out
}

func scaled(p api.Vector, factor api.Rat) api.Vector {
	out, _ := vector.Scale(p, factor)
	return out
}
