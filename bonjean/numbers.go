package bonjean

import (
	"slices"

	"garboard/api"
	"garboard/attitude"
	"garboard/float"
)

// This layer does not compute with numbers itself: it lets float and attitude do so, with solids that have these numbers as coordinates.

func upright() api.Attitude { return api.Attitude{Heel: "0", Trim: "0"} }

func areNumbers(l []api.Rat) bool {
	for _, x := range l {
		if _, e := attitude.Water(upright(), x); e != api.OK {
			return false
		}
	}
	return true
}

// order asks for the extent of two points, which are in order if the first one is the least.
func order(x, y api.Rat) int {
	if x == y {
		return 0
	}
	p, q := point(x, "0", "0"), point(y, "0", "0")
	extent, _ := attitude.Extent(api.Solid{{p, q, q}}, upright())
	if extent.Ahead.Lo == x {
		return -1
	}
	return 1
}

func point(x, y, z api.Rat) api.Vector { return api.Vector{X: x, Y: y, Z: z} }

// edge returns that from (y, z) to (v, w) in a section, with the determinant y w - z v.
func edge(y, z, v, w api.Rat) api.Segment {
	return api.Segment{point("0", y, z), point("0", v, w)}
}

// determinant returns the sum of those of some edges.
func determinant(l ...api.Segment) api.Rat { return spanned(l, "6") }

// third returns a third of the sum of the determinants of some edges.
func third(l []api.Segment) api.Rat { return spanned(l, "2") }

func sum(l []api.Rat) api.Rat {
	var edges []api.Segment
	for _, x := range l {
		edges = append(edges, edge(x, "0", "0", "1"))
	}
	return determinant(edges...)
}

// spanned returns the sum of the volumes of tetrahedra: each one has the origin, both ends of an edge, and a point at a height above the origin. So it is a sixth of the determinant of the edge times the height.
func spanned(l []api.Segment, height api.Rat) api.Rat {
	var volumes []api.Rat
	for some := range slices.Chunk(l, mostTetrahedra) {
		volume, _ := float.Volume(tetrahedra(some, height), upright(), height)
		volumes = append(volumes, volume)
	}
	switch len(volumes) {
	case 0:
		return "0"
	case 1:
		return volumes[0]
	}
	return sum(volumes)
}

// mostTetrahedra is how many of them, with four triangles each, one solid can have.
const mostTetrahedra = api.MaxTriangles / 4

// tetrahedra stand with the section on the ground, so that the height alone says how much water covers them.
func tetrahedra(l []api.Segment, height api.Rat) api.Solid {
	var out api.Solid
	o, top := point("0", "0", "0"), point("0", "0", height)
	for _, edge := range l {
		p, q := point(edge[0].Y, edge[0].Z, "0"), point(edge[1].Y, edge[1].Z, "0")
		out = append(out, api.Triangle{p, o, q}, api.Triangle{p, top, o}, api.Triangle{top, p, q}, api.Triangle{top, q, o})
	}
	return out
}
