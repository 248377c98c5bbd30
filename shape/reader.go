package shape

import (
	"iter"
	"strings"

	"garboard/api"
	"garboard/rational"
)

// words yields what stands between the blanks of a line.
func words(line string) iter.Seq[string] {
	return func(yield func(string) bool) {
		for word := range strings.SplitSeq(line, " ") {
			if word != "" && !yield(word) {
				return
			}
		}
	}
}

// reader takes words from the front of a line. It is wrong as soon as one of them is not what it should be.
type reader struct {
	words   []string
	isWrong bool
}

// next returns "" if there are no more words.
func (r *reader) next() string {
	if len(r.words) == 0 {
		r.isWrong = true
		return ""
	}
	word := r.words[0]
	r.words = r.words[1:]
	return word
}

func (r *reader) expect(word string) {
	if r.next() != word {
		r.isWrong = true
	}
}

// accept takes a word if it is the next one, and reports whether it is.
func (r *reader) accept(word string) bool {
	if len(r.words) == 0 || r.words[0] != word {
		return false
	}
	r.next()
	return true
}

func (r *reader) names() []string {
	var out []string
	for len(r.words) > 0 && !endsNames(r.words[0]) {
		out = append(out, r.next())
	}
	return out
}

func (r *reader) vector() api.Vector {
	var l [3]api.Rat
	for i := range l {
		x, e := rational.Parse(r.next())
		if e != api.OK {
			r.isWrong = true
		}
		l[i] = x
	}
	return api.Vector{X: l[0], Y: l[1], Z: l[2]}
}
