package shape

import (
	"slices"

	"garboard/api"
	"garboard/mesh"
)

// kind is what is particular about a kind of parts. A line has what is read and written between its name and its flags.
type kind struct {
	word       string
	hasVectors func(p api.Part) bool
	hasFaces   func(count int) bool
	read       func(r *reader, p *api.Part)
	write      func(p api.Part) []string
	build      func(p api.Part, at map[string]api.Vector) (api.Solid, api.Errno)
}

func kinds() map[int]kind {
	return map[int]kind{
		api.PartBox: {
			word:       "box",
			hasVectors: func(p api.Part) bool { return areValid(p.Low, p.High) && areEmpty(p.Along) },
			hasFaces:   func(count int) bool { return count == 0 },
			read: func(r *reader, p *api.Part) {
				p.Low = r.vector()
				r.expect(cornerWord)
				p.High = r.vector()
			},
			write: func(p api.Part) []string {
				return slices.Concat(numbers(p.Low), []string{cornerWord}, numbers(p.High))
			},
			build: func(p api.Part, _ map[string]api.Vector) (api.Solid, api.Errno) { return mesh.Box(p.Low, p.High) },
		},
		api.PartPrism: {
			word:       "prism",
			hasVectors: func(p api.Part) bool { return areValid(p.Along) && areEmpty(p.Low, p.High) },
			hasFaces:   func(count int) bool { return count == 1 },
			read: func(r *reader, p *api.Part) {
				r.expect(polygonWord)
				p.Faces = [][]string{r.names()}
				r.expect(alongWord)
				p.Along = r.vector()
			},
			write: func(p api.Part) []string {
				return slices.Concat([]string{polygonWord}, p.Faces[0], []string{alongWord}, numbers(p.Along))
			},
			build: func(p api.Part, at map[string]api.Vector) (api.Solid, api.Errno) {
				return mesh.Prism(polygon(p.Faces[0], at), p.Along)
			},
		},
		api.PartFaces: {
			word:       "faces",
			hasVectors: func(p api.Part) bool { return areEmpty(p.Low, p.High, p.Along) },
			hasFaces:   func(count int) bool { return count > 0 },
			read: func(r *reader, p *api.Part) {
				p.Faces = [][]string{r.names()}
				for r.accept(faceWord) {
					p.Faces = append(p.Faces, r.names())
				}
			},
			write: func(p api.Part) []string { return joined(p.Faces) },
			build: fans,
		},
	}
}

// polygon returns the points with some names.
func polygon(names []string, at map[string]api.Vector) []api.Vector {
	var out []api.Vector
	for _, name := range names {
		out = append(out, at[name])
	}
	return out
}

// fans returns those of the faces of a part.
func fans(p api.Part, at map[string]api.Vector) (api.Solid, api.Errno) {
	var out api.Solid
	for _, face := range p.Faces {
		fan, e := mesh.Fan(polygon(face, at))
		if e != api.OK {
			return nil, e
		}
		out = append(out, fan...)
		// Further ones would not change the error.
		if len(out) > api.MaxTriangles {
			break
		}
	}
	if e := mesh.Check(out); e != api.OK {
		return nil, e
	}
	return out, api.OK
}

// joined returns the names of all faces, with a word between two faces.
func joined(faces [][]string) []string {
	var out []string
	for i, face := range faces {
		if i > 0 {
			out = append(out, faceWord)
		}
		out = append(out, face...)
	}
	return out
}
