package shape

import (
	"strings"

	"garboard/api"
)

// The words of lines that are no names, beside those with which lines of parts begin.
const (
	pointWord   = "point"
	cornerWord  = "to"
	polygonWord = "of"
	alongWord   = "along"
	faceWord    = "/"
	mirrorWord  = "mirror"
	minusWord   = "minus"
	commentMark = "#"
)

// noLine is the number of a line where none is wrong.
const noLine = -1

// endsNames reports whether a word is none of the names in a face.
func endsNames(word string) bool {
	return word == alongWord || word == faceWord || word == mirrorWord || word == minusWord
}

// Print returns the text of a description.
func Print(d api.Description) (string, api.Errno) {
	if Check(d) != api.OK {
		return "", api.ErrArg
	}
	var out strings.Builder
	write := func(words []string) { out.WriteString(strings.Join(words, " ") + "\n") }
	for _, p := range d.Points {
		write(append([]string{pointWord, p.Name}, numbers(p.At)...))
	}
	for _, p := range d.Parts {
		if anyName(p, endsNames) {
			return "", api.ErrName
		}
		write(partLine(p))
	}
	return out.String(), api.OK
}

func partLine(p api.Part) []string {
	k := kinds()[p.Kind]
	line := append([]string{k.word, p.Name}, k.write(p)...)
	if p.Mirror {
		line = append(line, mirrorWord)
	}
	if p.Minus {
		line = append(line, minusWord)
	}
	return line
}

func numbers(a api.Vector) []string { return []string{string(a.X), string(a.Y), string(a.Z)} }

// Parse returns the description with a text.
func Parse(text string) (api.Description, int, api.Errno) {
	if len(text) > api.MaxData {
		return api.Description{}, noLine, api.ErrTooLarge
	}
	d, line := parse(text)
	if line != noLine {
		return api.Description{}, line, api.ErrSyntax
	}
	if e := Check(d); e != api.OK {
		return api.Description{}, noLine, e
	}
	return d, noLine, api.OK
}

// parse returns what the lines of a text describe, or the number of the first one that does not have its form.
func parse(text string) (api.Description, int) {
	var d api.Description
	forms := forms()
	number := 0
	for line := range strings.Lines(text) {
		if !parseLine(line, forms, &d) {
			return api.Description{}, number
		}
		number++
	}
	return d, noLine
}

// form reads a line of a kind behind its first word.
type form func(r *reader, d *api.Description)

// forms returns those of all kinds, by the first words.
func forms() map[string]form {
	out := map[string]form{
		pointWord: func(r *reader, d *api.Description) {
			d.Points = append(d.Points, api.Named{Name: r.next(), At: r.vector()})
		},
	}
	for number, k := range kinds() {
		out[k.word] = func(r *reader, d *api.Description) {
			p := api.Part{Name: r.next(), Kind: number}
			k.read(r, &p)
			p.Mirror = r.accept(mirrorWord)
			p.Minus = r.accept(minusWord)
			d.Parts = append(d.Parts, p)
		}
	}
	return out
}

// parseLine reports whether a line has its form.
func parseLine(line string, forms map[string]form, d *api.Description) bool {
	content, isEnded := strings.CutSuffix(line, "\n")
	if !isEnded {
		return false
	}
	r := &reader{}
	for word := range words(content) {
		r.words = append(r.words, word)
	}
	if len(r.words) == 0 || strings.HasPrefix(r.words[0], commentMark) {
		return true
	}
	read, isKnown := forms[r.next()]
	if !isKnown {
		return false
	}
	read(r, d)
	return !r.isWrong && len(r.words) == 0
}
