package bonjean

import (
	"iter"

	"garboard/api"
	"garboard/clip"
)

func ahead() api.Vector { return api.Vector{X: "1", Y: "0", Z: "0"} }

// wet returns what of a section is in the water, and what closes it again along the surface: as many edges are cut at their beginnings as at their ends, and it does not matter which of these are joined. So no cap is needed, and there is no limit to what is cut.
func wet(section []api.Segment, water api.Plane) []api.Segment {
	var out []api.Segment
	var beginnings, ends []api.Vector
	for _, edge := range section {
		// A triangle without area is closed, and its first piece begins with what is left of the edge.
		part, _ := clip.Below(api.Solid{{edge[0], edge[1], edge[1]}}, water)
		if len(part) == 0 {
			continue
		}
		left := api.Segment{part[0][0], part[0][1]}
		out = append(out, left)
		if left[0] != edge[0] {
			beginnings = append(beginnings, left[0])
		}
		if left[1] != edge[1] {
			ends = append(ends, left[1])
		}
	}
	for i, end := range ends {
		out = append(out, api.Segment{end, beginnings[i]})
	}
	return out
}

// area is computed from edges, because the integrals over a waterplane, of which most are not needed for it, take several times as long.
func area(section []api.Segment, water api.Plane) api.Rat { return spanned(wet(section, water), "3") }

// gap lies between two breaks, and has three sections.
type gap struct {
	from, to  api.Rat
	xs, areas [3]api.Rat
}

// gaps yields those between each two breaks that follow one another.
func gaps(s api.Solid, water api.Plane, breaks []api.Rat) iter.Seq[gap] {
	return func(yield func(gap) bool) {
		for i := 1; i < len(breaks); i++ {
			g := gap{from: breaks[i-1], to: breaks[i]}
			g.xs = [3]api.Rat{g.at("-1/4", "3/4"), g.at("-1/2", "1/2"), g.at("-3/4", "1/4")}
			sections, _ := clip.Slices(s, ahead(), g.xs[:])
			for k, section := range sections {
				g.areas[k] = area(section, water)
			}
			if !yield(g) {
				return
			}
		}
	}
}

// at returns the place at a part of the way, which is given with the opposite sign, and with what is left of the way.
func (g gap) at(part, rest api.Rat) api.Rat {
	return determinant(edge(g.from, g.to, part, rest))
}

// moments returns the areas multiplied by their X coordinates.
func (g gap) moments() [3]api.Rat {
	var out [3]api.Rat
	for i, x := range g.xs {
		out[i] = determinant(edge(x, "0", "0", g.areas[i]))
	}
	return out
}

// times returns an edge whose determinant is the length of the gap times (2 A - B + 2 C).
func (g gap) times(l [3]api.Rat) api.Segment {
	mean := determinant(edge(l[0], l[1], "1", "2"), edge(l[2], "0", "0", "2"))
	return edge(g.to, g.from, mean, mean)
}
