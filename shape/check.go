package shape

import (
	"slices"
	"strings"

	"garboard/api"
	"garboard/vector"
)

// leastNames is how many points a face needs.
const leastNames = 3

const (
	letters   = "ABCDEFGHIJKLMNOPQRSTUVWXYZabcdefghijklmnopqrstuvwxyz"
	nameBytes = letters + "0123456789._-"
)

// Check returns the first fault of a description.
func Check(d api.Description) api.Errno {
	if len(d.Points) > api.MaxPoints || len(d.Parts) > api.MaxTerms {
		return api.ErrTooLarge
	}
	points, parts := map[string]bool{}, map[string]bool{}
	for _, p := range d.Points {
		if e := add(points, p.Name); e != api.OK {
			return e
		}
		if !vector.Valid(p.At) {
			return api.ErrArg
		}
	}
	for _, p := range d.Parts {
		if e := add(parts, p.Name); e != api.OK {
			return e
		}
		if e := checkPart(p, points); e != api.OK {
			return e
		}
	}
	return api.OK
}

// add adds a name to those before, or returns its fault.
func add(names map[string]bool, name string) api.Errno {
	if !isName(name) {
		return api.ErrName
	}
	if names[name] {
		return api.ErrTwice
	}
	names[name] = true
	return api.OK
}

// isName looks at bytes: a letter that takes several of them is none of those that names have.
func isName(text string) bool {
	if text == "" || len(text) > api.MaxName || strings.IndexByte(letters, text[0]) < 0 {
		return false
	}
	for _, b := range []byte(text) {
		if strings.IndexByte(nameBytes, b) < 0 {
			return false
		}
	}
	return true
}

// checkPart returns the first fault of a part behind those of its name.
func checkPart(p api.Part, points map[string]bool) api.Errno {
	k, isKnown := kinds()[p.Kind]
	if !isKnown {
		return api.ErrRange
	}
	if !k.hasVectors(p) {
		return api.ErrArg
	}
	if !k.hasFaces(len(p.Faces)) {
		return api.ErrMismatch
	}
	if len(p.Faces) > api.MaxTriangles || anyFace(p, func(face []string) bool { return len(face) > api.MaxPoints }) {
		return api.ErrTooLarge
	}
	if anyFace(p, func(face []string) bool { return len(face) < leastNames }) {
		return api.ErrEmpty
	}
	if anyName(p, func(name string) bool { return !points[name] }) {
		return api.ErrNotFound
	}
	return api.OK
}

func anyFace(p api.Part, is func(face []string) bool) bool { return slices.ContainsFunc(p.Faces, is) }

func anyName(p api.Part, is func(name string) bool) bool {
	return anyFace(p, func(face []string) bool { return slices.ContainsFunc(face, is) })
}

func areValid(l ...api.Vector) bool {
	return !slices.ContainsFunc(l, func(a api.Vector) bool { return !vector.Valid(a) })
}

func areEmpty(l ...api.Vector) bool {
	return !slices.ContainsFunc(l, func(a api.Vector) bool { return a != api.Vector{} })
}
