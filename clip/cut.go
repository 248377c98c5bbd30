package clip

import (
	"iter"

	"garboard/api"
	"garboard/vector"
)

// cut is what a plane makes of the points and the edges of a solid. Each point and each edge is asked about once, in however many triangles it is.
type cut struct {
	plane     api.Plane
	isAbove   map[api.Vector]bool
	crossings map[api.Segment]api.Vector
}

// cutBy needs a plane and points that are valid.
func cutBy(p api.Plane, points []api.Vector) cut {
	c := cut{p, map[api.Vector]bool{}, map[api.Segment]api.Vector{}}
	for _, point := range points {
		side, _ := vector.Side(p, point)
		c.isAbove[point] = side > 0
	}
	return c
}

// crossing needs an edge from one side to the other one. It is kept for the end above as the first one, because the other triangle at the edge has it the other way round.
func (c cut) crossing(a, b api.Vector) api.Vector {
	edge := api.Segment{a, b}
	if c.isAbove[b] {
		edge = api.Segment{b, a}
	}
	if _, isKnown := c.crossings[edge]; !isKnown {
		c.crossings[edge], _ = vector.Crossing(c.plane, edge[0], edge[1])
	}
	return c.crossings[edge]
}

// turn turns a triangle until its first point is the one that is alone on its side, and reports whether there is such a point.
func (c cut) turn(t api.Triangle) (api.Triangle, bool) {
	for range t {
		side := c.isAbove[t[0]]
		if side != c.isAbove[t[1]] && side != c.isAbove[t[2]] {
			return t, true
		}
		t = [3]api.Vector{t[1], t[2], t[0]}
	}
	return t, false
}

// corner returns the crossings of both edges at the first point of a turned triangle.
func (c cut) corner(t api.Triangle) (d, e api.Vector) {
	d = c.crossing(t[0], t[1])
	e = c.crossing(t[0], t[2])
	return d, e
}

// pieces yields the triangles, or their pieces if they are cut, and whether they are above.
func (c cut) pieces(s api.Solid) iter.Seq2[api.Triangle, bool] {
	return func(yield func(api.Triangle, bool) bool) {
		for _, whole := range s {
			t, isCut := c.turn(whole)
			isAbove := c.isAbove[t[0]]
			if !isCut {
				if !yield(t, isAbove) {
					return
				}
				continue
			}
			d, e := c.corner(t)
			if !yield(api.Triangle{t[0], d, e}, isAbove) || !yield(api.Triangle{d, t[1], t[2]}, !isAbove) || !yield(api.Triangle{d, t[2], e}, !isAbove) {
				return
			}
		}
	}
}

// section returns the edges of the triangles that are cut.
func (c cut) section(s api.Solid) []api.Segment {
	var out []api.Segment
	for _, whole := range s {
		t, isCut := c.turn(whole)
		if !isCut {
			continue
		}
		d, e := c.corner(t)
		if !c.isAbove[t[0]] {
			d, e = e, d
		}
		if d != e {
			out = append(out, api.Segment{d, e})
		}
	}
	return out
}

// part returns what is on one side, with its cap.
func (c cut) part(s api.Solid, isAbove bool) api.Solid {
	var out api.Solid
	for piece, side := range c.pieces(s) {
		if side == isAbove {
			out = append(out, piece)
		}
	}
	for _, t := range closing(c.section(s)) {
		if isAbove {
			t[1], t[2] = t[2], t[1]
		}
		out = append(out, t)
	}
	return out
}

// closing returns the cap of a section, as it is below.
func closing(section []api.Segment) []api.Triangle {
	var out []api.Triangle
	for _, edge := range section {
		first := section[0][0]
		if edge[0] != first && edge[1] != first {
			out = append(out, api.Triangle{first, edge[0], edge[1]})
		}
	}
	return out
}
